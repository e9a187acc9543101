/-
  Layer 4: the numbers of rows, in their order.
-/
import Derived.Test.YtigbojdnaeaojaaO10
import Derived.Test.YtigbojdnaeaojaaO12
import Derived.Test.YtigbojdnaeaojaaO6
namespace Go.Proofs.Ytigbojdnaeaojaa
open Go.RowKit Go.Tab

/-- A row of rows. -/
def RowsAt (w : World) (v : Value) (L : List (List Int)) : Prop :=
  L.length ≤ 1000000 ∧ (((∃ a cap, v = .slice a 0 cap ∧ (a = none → cap = 0)) ∧ L = []) ∨ ∃ b off cap, v = .slice (some ⟨b, off, none⟩) L.length cap ∧ b < w.heap.size ∧ L.length ≤ cap ∧
    ∀ i, i < L.length → ∃ u, w.cell? ⟨b, off + i, none⟩ = some u ∧ IntsAt w u (L.getD i []))
theorem RowsAt.grows {w w' : World} {v : Value} {L : List (List Int)} (h : RowsAt w v L) (hg : Grows w w') : RowsAt w' v L := by
  obtain ⟨hl, h | ⟨b, off, cap, hv, hb, hcp, hc⟩⟩ := h
  · exact ⟨hl, .inl h⟩
  · refine ⟨hl, .inr ⟨b, off, cap, hv, Nat.lt_of_lt_of_le hb hg.size, hcp, fun i hi => ?_⟩⟩
    obtain ⟨u, h1, h2⟩ := hc i hi
    refine ⟨u, ?_, h2.grows hg⟩
    rw [Below.cell hg (p := ⟨b, off + i, none⟩) hb]
    exact h1
theorem RowsAt.shape {w : World} {v : Value} {L : List (List Int)} (h : RowsAt w v L) : ∃ a cap, v = .slice a L.length cap ∧ L.length ≤ cap ∧ (a = none → cap = 0) := by
  obtain ⟨_, ⟨⟨_, _, h, hz⟩, rfl⟩ | ⟨b, off, cap, hv, _, hc, _⟩⟩ := h
  · exact ⟨_, _, h, Nat.zero_le _, hz⟩
  · exact ⟨_, _, hv, hc, fun h => by cases h⟩
theorem RowsAt.at_ {w : World} {a : Option Addr} {n cap i : Nat} {L : List (List Int)} (h : RowsAt w (.slice a n cap) L) (hi : i < L.length) :
    ∃ b off u, a = some ⟨b, off, none⟩ ∧ b < w.heap.size ∧ w.cell? ⟨b, off + i, none⟩ = some u ∧ IntsAt w u (L.getD i []) := by
  obtain ⟨_, ⟨_, rfl⟩ | ⟨b, off, cap', hv, hb, _, hc⟩⟩ := h
  · cases hi
  · cases hv
    obtain ⟨u, h1, h2⟩ := hc i hi
    exact ⟨b, off, u, rfl, hb, h1, h2⟩

def rowR (L : List (List Int)) (x y : Int) : Bool := decide (cmpL (L.getD x.toNat []) (L.getD y.toNat []) < 0)

set_option maxRecDepth 100000 in
set_option maxHeartbeats 1000000 in
theorem rows1_any (a : Option Addr) (n cap B x y : Nat) (L : List (List Int)) (w : World) (hp : RowsAt w (.slice a n cap) L) (hn : L.length = n) (hx : x < n) (hy : y < n) (h0 : w.cell? ⟨B, 0, none⟩ = some (.slice a n cap)) (hB : B < w.heap.size) :
    Calls Try.prog 34 (#[iv x, iv y] ++ #[.pointer (some ⟨B, 0, none⟩)]) w (Ret (.bool (rowR L x y)) w) := by
  show Calls Try.prog 34 #[iv x, iv y, .pointer (some ⟨B, 0, none⟩)] w _
  obtain ⟨b, off, ux, rfl, hb, cx, ix⟩ := hp.at_ (i := x) (by omega)
  obtain ⟨b', off', uy, he, _, cy, iy⟩ := hp.at_ (i := y) (by omega)
  obtain ⟨rfl, rfl⟩ : b' = b ∧ off' = off := by cases he; exact ⟨rfl, rfl⟩
  have C0 := Lib.hid h0
  have CF : Hid (∀ w', Grows w w' → w'.cell? ⟨B, 0, none⟩ = some (.slice (some ⟨b', off', none⟩) n cap) ∧ w'.cell? ⟨b', off' + x, none⟩ = some ux ∧ w'.cell? ⟨b', off' + y, none⟩ = some uy) := Lib.hid fun w' hg =>
    ⟨by rw [Below.cell hg (p := ⟨B, 0, none⟩) hB]; exact h0, by rw [Below.cell hg (p := ⟨b', off' + x, none⟩) hb]; exact cx, by rw [Below.cell hg (p := ⟨b', off' + y, none⟩) hb]; exact cy⟩
  have HC := Lib.hid (fun w' (hg : Grows w w') => compare_any ux uy _ _ w' (ix.grows hg) (iy.grows hg))
  have HR : Hid (rowR L x y = decide (cmpL (L.getD x []) (L.getD y []) < 0)) := Lib.hid rfl
  rw [HR.out]
  generalize cmpL (L.getD x []) (L.getD y []) = c at HC ⊢
  obtain ⟨ax, nx, cpx, rfl⟩ : ∃ ax nx cpx, ux = .slice ax nx cpx := by obtain ⟨p, q, h, _⟩ := ix.shape; exact ⟨p, _, q, h⟩
  obtain ⟨ay, ny, cpy, rfl⟩ : ∃ ax nx cpx, uy = .slice ax nx cpx := by obtain ⟨p, q, h, _⟩ := iy.shape; exact ⟨p, _, q, h⟩
  clear hp ix iy cx cy h0 he HR
  go_enter Try.func34, Try.ntmps34
  go_wp2_with fail
  refine wp_region_tab 10 (by kernel_rfl) (by kernel_rfl) ?_
  intro w0 hw0 hg1 hg1'
  simp only [List.take_succ_cons, List.take_zero, List.drop_succ_cons, List.drop_zero]
  refine tab_val (.slice (some ⟨b', off', none⟩) n cap) (fun r w1 hr hg hA => by obtain ⟨q0, -⟩ := hA; have q0e : r (.tmp 2) = .pointer (some ⟨B, 0, none⟩) := q0; have hc := CF.out _ (hg1.trans hg); exact ⟨rfl, by simp [go_sem, q0e, hc]⟩) ?_
  refine tab_val (iv x) (fun r w1 hr hg hA => by obtain ⟨q0, -⟩ := hA; have q0e : r (.tmp 0) = iv x := q0; exact ⟨rfl, by simp [go_sem, q0e]⟩) ?_
  refine tab_val (.pointer (some ⟨b', off' + x, none⟩)) (fun r w1 hr hg hA => by obtain ⟨⟨_, q0⟩, ⟨_, q1⟩, -⟩ := hA; have q0e : r (.tmp 6) = .slice (some ⟨b', off', none⟩) n cap := q0; have q1e : r (.tmp 7) = iv x := q1; exact ⟨rfl, by simp [go_sem, q0e, q1e, hx]⟩) ?_
  refine tab_val (.slice ax nx cpx) (fun r w1 hr hg hA => by obtain ⟨⟨_, q0⟩, -⟩ := hA; have q0e : r (.tmp 8) = .pointer (some ⟨b', off' + x, none⟩) := q0; have hc := CF.out _ (hg1.trans hg); exact ⟨rfl, by simp [go_sem, q0e, hc]⟩) ?_
  refine tab_val (.slice (some ⟨b', off', none⟩) n cap) (fun r w1 hr hg hA => by obtain ⟨q0, -⟩ := hA; have q0e : r (.tmp 2) = .pointer (some ⟨B, 0, none⟩) := q0; have hc := CF.out _ (hg1.trans hg); exact ⟨rfl, by simp [go_sem, q0e, hc]⟩) ?_
  refine tab_val (iv y) (fun r w1 hr hg hA => by obtain ⟨q0, -⟩ := hA; have q0e : r (.tmp 1) = iv y := q0; exact ⟨rfl, by simp [go_sem, q0e]⟩) ?_
  refine tab_val (.pointer (some ⟨b', off' + y, none⟩)) (fun r w1 hr hg hA => by obtain ⟨⟨_, q0⟩, ⟨_, q1⟩, -⟩ := hA; have q0e : r (.tmp 10) = .slice (some ⟨b', off', none⟩) n cap := q0; have q1e : r (.tmp 11) = iv y := q1; exact ⟨rfl, by simp [go_sem, q0e, q1e, hy]⟩) ?_
  refine tab_val (.slice ay ny cpy) (fun r w1 hr hg hA => by obtain ⟨⟨_, q0⟩, -⟩ := hA; have q0e : r (.tmp 12) = .pointer (some ⟨b', off' + y, none⟩) := q0; have hc := CF.out _ (hg1.trans hg); exact ⟨rfl, by simp [go_sem, q0e, hc]⟩) ?_
  refine tab_call (v := iv c) (fun w1 hg => HC.out w1 (hg1.trans hg)) (fun r w1 hr hg hA => by obtain ⟨⟨_, q0⟩, ⟨_, q1⟩, -⟩ := hA; have q0e : r (.tmp 9) = .slice ax nx cpx := q0; have q1e : r (.tmp 13) = .slice ay ny cpy := q1; exact ⟨rfl, by simp [go_sem, hr.func, q0e, q1e]⟩) ?_
  refine tab_val (.bool (decide (c < 0))) (fun r w1 hr hg hA => by obtain ⟨⟨_, q0⟩, -⟩ := hA; have q0e : r (.tmp 14) = iv c := q0; exact ⟨rfl, by simp [go_sem, hr.const, q0e]⟩) ?_
  refine tab_end ?_
  simp only [List.reverse_cons, List.reverse_nil, List.nil_append, List.cons_append, Out, BlockP, forall_eq, forall_const, Act.put, List.setIfInBounds_toArray, List.set_cons_succ, List.set_cons_zero]
  intro wA hgA
  have GA := Lib.hid (hg1.trans hgA)
  clear hg1 hgA hg1' hw0
  go_wp2
  go_ret
  exact ⟨rfl, GA.out⟩

def idxL (n : Nat) : List Int := (List.range n).map fun i : Nat => (i : Int)
theorem idx_len (n : Nat) : (idxL n).length = n := by simp [idxL]
theorem idx_mem {n : Nat} {x : Int} (h : x ∈ idxL n) : ∃ i : Nat, i < n ∧ x = i := by
  obtain ⟨i, hi, rfl⟩ := List.mem_map.1 h
  exact ⟨i, List.mem_range.1 hi, rfl⟩
theorem idx_take (n k : Nat) (h : k < n) : (idxL n).take (k + 1) = (idxL n).take k ++ [(k : Int)] := by
  rw [List.take_succ_eq_append_getElem (by rw [idx_len]; exact h)]
  simp [idxL]
theorem set_mid (a : List Value) (X : List Value) (k : Nat) (u : Value) (hk : k < X.length) (ha : a.length = k) : (a ++ X.drop k).set k u = (a ++ [u]) ++ X.drop (k + 1) := by
  have h0 : (X.drop k).set 0 u = u :: X.drop (k + 1) := by rw [List.drop_eq_getElem_cons hk]; rfl
  rw [List.set_append_right _ _ (by omega), ha, Nat.sub_self, h0]
  simp

theorem box0 {w w1 : World} {x : Value} {T1 : TypeId} (h : Grows (w.alloc (.cells #[x] T1)) w1) : w1.cell? ⟨w.heap.size, 0, none⟩ = some x := by
  have k1 := Grows.block h (heap_new w (.cells #[x] T1) _ rfl)
  simp [World.cell?, k1]

set_option maxRecDepth 100000 in
set_option maxHeartbeats 2000000 in
theorem rows_any (v : Value) (L : List (List Int)) (w : World) (hp : RowsAt w v L) : Calls Try.prog 15 #[v] w (RetInts (sortF (rowR L) (idxL L.length)) w) := by
  have hmf : ∀ (fn : Fn) (first cap : Array Value) (w : World), (Instr.makeFunc fn first cap).run Try.prog w = .ok (.func fn first cap) w := fun _ _ _ _ => rfl
  obtain ⟨i0, hi0, hi1, hi2, hi3⟩ := info_parts infoI
  obtain ⟨a, cap, rfl, hc, hz⟩ := hp.shape
  have hle := hp.1
  have HP := Lib.hid (fun w' (hg : Grows w w') => hp.grows hg)
  clear hp
  generalize hlen : L.length = n at HP hle hc ⊢
  have HL := Lib.hid hlen
  clear hlen
  go_enter Try.func15, Try.ntmps15
  go_wp2_with (at_make; refine wpList_make_full _ rfl _ _ 24 rfl (w.heap.size + 1) 3 i0 (.int .i64 0) 1 Try.underlying24 hi0 hi1 hi2 .i64 .i64 _ _ n rfl rfl rfl rfl (by rw [hi3]; omega) (by unfold maxLen; omega) (by simp only [World.size_alloc]; omega) ?_; intro w1 hown1 hgr1; have Own1 := Lib.hid hown1; have G1 := Lib.hid (Below.grown (Grows.refl (w.alloc (.cells #[.slice a n cap] 23))) hgr1 (Nat.le_refl _) (fun k h => by cases h)); have b1 := box0 G1.out; clear hown1 hgr1)
  obtain ⟨X, hX⟩ : ∃ X, X = (madeCells (Value.int .i64 0).cells (n * 1)).toList := ⟨_, rfl⟩
  have Own1 : Hid (w1.ownsRow (w.heap.size + 1) 3 1 (.slice (some ⟨w.heap.size + 1, 0, none⟩) n n) n X) := Lib.hid (by rw [hX]; have := Own1.out; simpa only [World.size_alloc] using this)
  have XL : Hid (X.length = n) := Lib.hid (by have := Own1.out.1; simpa using this)
  clear hX
  go_loopw [10] (fun i wr => ∃ k : Nat, i = iv k ∧ k ≤ n ∧ wr.ownsRow (w.heap.size + 1) 3 1 (.slice (some ⟨w.heap.size + 1, 0, none⟩) n n) n (((idxL n).take k).map iv ++ X.drop k) ∧ Grows (w.alloc (.cells #[.slice a n cap] 23)) wr) (fun i _ => n - (intOf i).toNat)
  case atStart => exact ⟨0, rfl, Nat.zero_le _, by simpa using Own1.out, G1.out⟩
  case round =>
    obtain ⟨k, rfl, hk, hown, hg⟩ := hrel
    have Own := Lib.hid hown
    have G := Lib.hid hg
    clear hown hg b1 G1 Own1
    by_cases hlt : k < n
    · have fz := Own.out.frozenAt k
      have cl := Own.out.cellAt k (by omega)
      rw [List.getElem?_append_right (by rw [List.length_map, List.length_take, idx_len]; omega), List.length_map, List.length_take, idx_len, show k - min k n = 0 by omega, List.getElem?_drop, List.getElem?_eq_getElem (by rw [XL.out]; omega)] at cl
      generalize X[k + 0]'(by rw [XL.out]; omega) = x0 at cl
      have hst := Own.out.stored k (iv k)
      have OW := Lib.hid hst.1
      have GW := Lib.hid hst.2
      clear hst
      go_wp2
      refine ⟨⟨k + 1, by simp, by omega, ?_, Below.grown G.out GW.out (by have := G.out.size; exact this) (fun kk hkk => by cases hkk; simp only [World.size_alloc]; omega)⟩, by simp only [intOf]; omega⟩
      have := OW.out
      rw [set_mid _ X k (iv k) (by rw [XL.out]; omega) (by rw [List.length_map, List.length_take, idx_len]; omega)] at this
      rw [idx_take n k hlt, List.map_append]
      exact this
    · have hke : k = n := by omega
      subst hke
      have OI : Hid (IntsAt wr (.slice (some ⟨w.heap.size + 1, 0, none⟩) k k) (idxL k)) := Lib.hid (by
        have := Own.out
        rw [List.take_of_length_le (by rw [idx_len]; omega), List.drop_eq_nil_iff.2 (by rw [XL.out]; omega), List.append_nil] at this
        exact own_ints this (idx_len k).symm (by rw [idx_len]; omega))
      have SI : Hid (∀ w', Grows wr w' → Calls Try.prog 33 #[.slice (some ⟨w.heap.size + 1, 0, none⟩) k k, .func (.func 34) #[] #[.pointer (some ⟨w.heap.size, 0, none⟩)]] w' (RetInts (sortF (rowR L) (idxL k)) w')) := Lib.hid fun w' hg => by
        refine sorted_ints 34 #[.pointer (some ⟨w.heap.size, 0, none⟩)] (rowR L) (fun _ _ => rfl) k (idxL k) _ w' (by rw [idx_len]; omega) (by rw [idx_len]; omega) (OI.out.grows hg) fun w2 hg2 x y hx hy => ?_
        obtain ⟨i, hi, rfl⟩ := idx_mem hx
        obtain ⟨j, hj, rfl⟩ := idx_mem hy
        have G2 := G.out.trans (hg.trans hg2)
        exact rows1_any a k cap w.heap.size i j L w2 (HP.out w2 (((Grows.refl w).al _).trans G2)) HL.out hi hj (box0 G2) (by have := G2.size; simp only [World.size_alloc] at this; omega)
      have G0 : Hid (Grows w wr) := Lib.hid (((Grows.refl w).al _).trans G.out)
      clear Own OI
      have b1 := box0 G.out
      go_wp2_with fail
      refine (SI.out _ (Grows.refl _)).mono ?_
      rintro _ w2 ⟨v, rfl, hv, hg⟩
      have V := Lib.hid (ownsRow_base hv G0.out.size)
      have G2 := Lib.hid (G0.out.trans hg)
      clear hv hg SI
      go_wp2
      go_ret
      exact ⟨v, rfl, V.out, G2.out⟩
end Go.Proofs.Ytigbojdnaeaojaa
