/-
  Layer 22: an edge's places as the loop lays them; the two rows that hold them.
-/
import Derived.Test.YtlkihbehiojimaaK25
import Derived.Test.YtlkihbehiojimaaTR
import Derived.Test.YtlkihbehiojimaaK15
namespace Go.Proofs.Ytlkihbehiojimaa
open Go.RowKit Go.Tab Go.TabR

theorem getD_lt {L : List (Int × Int)} {i : Nat} (h : i < L.length) : L.getD i (0, 0) = L[i] := by simp [List.getD, h]
theorem infoInt : (Try.prog.info? 3).map (fun i => (i.zero, i.size, i.bytes)) = some (some (.int .i64 0), 1, 8) := by kernel_rfl
def plX (p q c : Int) : List (Int × Int) := if p = q then [] else [placeB p q c]
def plK (px py qx qy : Int) (b : BoxI) (k : Nat) : List (Int × Int) :=
  [(0, 1), (1, 1)] ++ (if 0 < k then plX px qx b.lx ++ plX py qy b.ly else []) ++ (if 1 < k then plX px qx b.hx ++ plX py qy b.hy else [])
theorem plK_two (px py qx qy : Int) (b : BoxI) : plK px py qx qy b 2 = places px py qx qy b := by simp [plK, places, plX]
def cX (b : BoxI) (k : Nat) : Int := if k = 0 then b.lx else b.hx
def cY (b : BoxI) (k : Nat) : Int := if k = 0 then b.ly else b.hy
theorem plK_succ (px py qx qy : Int) (b : BoxI) {k : Nat} (hk : k < 2) : plK px py qx qy b (k + 1) = plK px py qx qy b k ++ plX px qx (cX b k) ++ plX py qy (cY b k) := by
  have : k = 0 ∨ k = 1 := by omega
  rcases this with rfl | rfl <;> simp [plK, cX, cY]
theorem plX_le (p q c : Int) : (plX p q c).length ≤ 1 := by unfold plX; split <;> simp
theorem plK_le (px py qx qy : Int) (b : BoxI) (k : Nat) : (plK px py qx qy b k).length ≤ 6 := by
  have h1 := plX_le px qx b.lx
  have h2 := plX_le py qy b.ly
  have h3 := plX_le px qx b.hx
  have h4 := plX_le py qy b.hy
  unfold plK
  split <;> split <;> simp only [List.length_append, List.length_cons, List.length_nil] <;> omega
theorem plK_head (px py qx qy : Int) (b : BoxI) (k : Nat) : ∃ M, plK px py qx qy b k = (0, 1) :: M := ⟨_, by unfold plK; rw [List.append_assoc]; rfl⟩

theorem place_bd {p q c : Int} (hp : in24 p) (hq : in24 q) (hc : in24 c) (hne : p ≠ q) : -33554432 ≤ (placeB p q c).1 ∧ (placeB p q c).1 ≤ 33554432 ∧ 1 ≤ (placeB p q c).2 ∧ (placeB p q c).2 ≤ 33554432 := by
  obtain ⟨p1, p2⟩ := hp
  obtain ⟨q1, q2⟩ := hq
  obtain ⟨c1, c2⟩ := hc
  unfold placeB signI
  by_cases h : p < q
  · rw [if_pos (by omega)]; simp; omega
  · rw [if_neg (by omega), if_pos (by omega)]; simp; omega
theorem places_bd {px py qx qy : Int} {b : BoxI} (hpx : in24 px) (hpy : in24 py) (hqx : in24 qx) (hqy : in24 qy) (hlx : in24 b.lx) (hly : in24 b.ly) (hhx : in24 b.hx) (hhy : in24 b.hy) {u : Int × Int} (h : u ∈ places px py qx qy b) :
    -33554432 ≤ u.1 ∧ u.1 ≤ 33554432 ∧ 1 ≤ u.2 ∧ u.2 ≤ 33554432 := by
  rcases mem_places.1 h with rfl | rfl | ⟨hn, rfl⟩ | ⟨hn, rfl⟩ | ⟨hn, rfl⟩ | ⟨hn, rfl⟩
  · decide
  · decide
  · exact place_bd hpx hqx hlx hn
  · exact place_bd hpy hqy hly hn
  · exact place_bd hpx hqx hhx hn
  · exact place_bd hpy hqy hhy hn

def prL (px py qx qy : Int) (b : BoxI) (L : List (Int × Int)) (j k : Nat) : Bool := pairB px py qx qy b (L.getD j (0, 0)) (L.getD k (0, 0))
theorem inside_yes {px py qx qy : Int} {b : BoxI} {L : List (Int × Int)} (hL : L = places px py qx qy b) {j k : Nat} (hj : j < L.length) (hk : k < L.length) (h : prL px py qx qy b L j k = true) : insideB px py qx qy b = true := by
  subst hL
  unfold insideB
  have hm : ∀ i, i < (places px py qx qy b).length → (places px py qx qy b).getD i (0, 0) ∈ places px py qx qy b := fun i hi => by
    rw [getD_lt hi]; exact List.getElem_mem hi
  exact List.any_eq_true.2 ⟨_, hm j hj, List.any_eq_true.2 ⟨_, hm k hk, h⟩⟩
theorem inside_no {px py qx qy : Int} {b : BoxI} {L : List (Int × Int)} (hL : L = places px py qx qy b) (h : ∀ j, j < L.length → ∀ k, k < L.length → prL px py qx qy b L j k = false) : insideB px py qx qy b = false := by
  subst hL
  unfold insideB
  rw [List.any_eq_false]
  intro u hu
  rw [Bool.not_eq_true, List.any_eq_false]
  intro v hv
  obtain ⟨j, hj, rfl⟩ := List.getElem_of_mem hu
  obtain ⟨k, hk, rfl⟩ := List.getElem_of_mem hv
  have := h j hj k hk
  unfold prL at this
  rw [getD_lt hj, getD_lt hk] at this
  rw [this]
  simp

def vF (L : List (Int × Int)) : List Value := L.map fun u => .int .i64 u.1
def vS (L : List (Int × Int)) : List Value := L.map fun u => .int .i64 u.2
/-- The two rows. -/
def ND (H : Nat) (w : World) (vn vd : Value) (L : List (Int × Int)) : Prop :=
  w.ownsRow (H + 3) 3 1 vn L.length (vF L) ∧ w.ownsRow (H + 3) 3 1 vd L.length (vS L) ∧ (∃ g, vn.ownBlock = some g ∧ (g = H + 3 ∨ H + 7 ≤ g)) ∧ (∃ g, vd.ownBlock = some g ∧ (g = H + 4 ∨ H + 7 ≤ g)) ∧ ∃ M, L = (0, 1) :: M
theorem ND.grows {H : Nat} {w w' : World} {vn vd : Value} {L : List (Int × Int)} (h : ND H w vn vd L) (hg : Grows w w') : ND H w' vn vd L := ⟨ownsRow_later h.1 hg, ownsRow_later h.2.1 hg, h.2.2⟩
theorem ND.apart {H : Nat} {w : World} {vn vd : Value} {L : List (Int × Int)} {g1 g2 : Nat} (h : ND H w vn vd L) (h1 : vn.ownBlock = some g1) (h2 : vd.ownBlock = some g2) : g1 ≠ g2 := by
  intro he
  subst he
  obtain ⟨a, b, -, -, M, rfl⟩ := h
  have e1 := a.cells h1 0 (.int .i64 0) (by simp [vF])
  have e2 := b.cells h2 0 (.int .i64 1) (by simp [vS])
  rw [e1] at e2
  injection e2 with e2
  injection e2 with _ e2
  exact absurd e2 (by decide)
theorem ND.grown {H N gn gd n : Nat} {w : World} {vn vd : Value} {L : List (Int × Int)} {x y : Int} (hn : n = L.length) (hN : H + 7 ≤ N) (hgn : gn = H + 3 ∨ H + 7 ≤ gn) (hgd : gd = H + 4 ∨ H + 7 ≤ gd) (hL : ∃ M, L = (0, 1) :: M)
    (h1 : Grown N ⟨gn, n, vF L ++ [.int .i64 x]⟩ (H + 3) 3 1 vn (n + 1) w) (h2 : Grown N ⟨gd, n, vS L ++ [.int .i64 y]⟩ (H + 3) 3 1 vd (n + 1) w) : ND H w vn vd (L ++ [(x, y)]) := by
  subst hn
  refine ⟨by simpa [vF] using h1.1, by simpa [vS] using h2.1, ?_, ?_, ?_⟩
  · rcases h1.2 with h | ⟨b, h, hb⟩
    · exact ⟨gn, h, hgn⟩
    · exact ⟨b, h, .inr (by omega)⟩
  · rcases h2.2 with h | ⟨b, h, hb⟩
    · exact ⟨gd, h, hgd⟩
    · exact ⟨b, h, .inr (by omega)⟩
  · obtain ⟨M, rfl⟩ := hL; exact ⟨M ++ [(x, y)], rfl⟩
theorem row_shape {w : World} {base : Nat} {e : TypeId} {v : Value} {n : Nat} {xs : List Value} (h : w.ownsRow base e 1 v n xs) {g : Nat} (hg : v.ownBlock = some g) : ∃ c, v = .slice (some ⟨g, 0, none⟩) n c ∧ n ≤ c ∧ g < w.heap.size ∧ ∀ j u, xs[j]? = some u → w.cell? ⟨g, j, none⟩ = some u := by
  have hc := h.cells hg
  obtain ⟨_, ⟨rfl, _⟩ | ⟨g', cap, cur, rfl, hb, hh, h1, h2, h3, h4⟩⟩ := h
  · cases hg
  · have : g' = g := by injection hg
    subst this
    exact ⟨cap, rfl, h1, (Array.getElem?_eq_some_iff.1 hh).1, fun j u hj => by have := hc j u hj; rw [Tab.add_at, Nat.zero_add] at this; exact this⟩
theorem ND.shape {H : Nat} {w : World} {vn vd : Value} {L : List (Int × Int)} (h : ND H w vn vd L) : ∃ gn cn gd cd, vn = .slice (some ⟨gn, 0, none⟩) L.length cn ∧ vd = .slice (some ⟨gd, 0, none⟩) L.length cd ∧ L.length ≤ cn ∧ L.length ≤ cd ∧ gn < w.heap.size ∧ gd < w.heap.size ∧
    ∀ j, j < L.length → w.cell? ⟨gn, j, none⟩ = some (.int .i64 (L.getD j (0, 0)).1) ∧ w.cell? ⟨gd, j, none⟩ = some (.int .i64 (L.getD j (0, 0)).2) := by
  obtain ⟨a, b, ⟨gn, e1, -⟩, ⟨gd, e2, -⟩, -⟩ := h
  obtain ⟨cn, rfl, k1, k2, k3⟩ := row_shape a e1
  obtain ⟨cd, rfl, l1, l2, l3⟩ := row_shape b e2
  refine ⟨gn, cn, gd, cd, rfl, rfl, k1, l1, k2, l2, fun j hj => ⟨k3 j _ ?_, l3 j _ ?_⟩⟩
  · rw [getD_lt hj]; simp [vF, hj]
  · rw [getD_lt hj]; simp [vS, hj]

/-- What else lies there. -/
def NB (H : Nat) (w0 w : World) (px py qx qy lx ly hx hy : Int) : Prop :=
  Below H w0 w ∧ H + 7 ≤ w.heap.size ∧ w.heap[H]? = some (.cells #[.int .i64 px, .int .i64 py] 30 (0, 0)) ∧ w.heap[H + 1]? = some (.cells #[.int .i64 qx, .int .i64 qy] 30 (0, 0)) ∧
  w.heap[H + 2]? = some (.cells #[.int .i64 lx, .int .i64 ly, .int .i64 hx, .int .i64 hy] 32 (0, 0)) ∧ w.heap[H + 5]? = some (.cells #[.int .i64 lx, .int .i64 hx] 3 (0, 0)) ∧ w.heap[H + 6]? = some (.cells #[.int .i64 ly, .int .i64 hy] 3 (0, 0))
theorem NB.rs {H : Nat} {w0 w w' : World} {px py qx qy lx ly hx hy : Int} (h : NB H w0 w px py qx qy lx ly hx hy) {S : List Res} (hr : Rs S w w') (hS : ∀ s ∈ S, s.g = H + 3 ∨ s.g = H + 4 ∨ H + 7 ≤ s.g) : NB H w0 w' px py qx qy lx ly hx hy := by
  obtain ⟨h1, h2, h3, h4, h5, h6, h7⟩ := h
  have hb : ∀ k, k < w.heap.size → k ≠ H + 3 → k ≠ H + 4 → k < H + 7 → w'.heap[k]? = w.heap[k]? := fun k h1 h2 h3 h4 => hr.block k h1 (fun s hs => by have := hS s hs; omega)
  refine ⟨⟨hr.os.trans h1.os, hr.tape.trans h1.tape, hr.output.trans h1.output, Nat.le_trans h1.size hr.size, fun k hk => (hb k (by omega) (by omega) (by omega) (by omega)).trans (h1.block k hk)⟩, Nat.le_trans h2 hr.size, ?_, ?_, ?_, ?_, ?_⟩
  · rw [hb _ (by omega) (by omega) (by omega) (by omega)]; exact h3
  · rw [hb _ (by omega) (by omega) (by omega) (by omega)]; exact h4
  · rw [hb _ (by omega) (by omega) (by omega) (by omega)]; exact h5
  · rw [hb _ (by omega) (by omega) (by omega) (by omega)]; exact h6
  · rw [hb _ (by omega) (by omega) (by omega) (by omega)]; exact h7
theorem NB.grows {H : Nat} {w0 w w' : World} {px py qx qy lx ly hx hy : Int} (h : NB H w0 w px py qx qy lx ly hx hy) (hg : Grows w w') : NB H w0 w' px py qx qy lx ly hx hy :=
  ⟨h.1.trans (Below.mono hg (by have := h.2.1; omega)), Nat.le_trans h.2.1 hg.size, hg.block h.2.2.1, hg.block h.2.2.2.1, hg.block h.2.2.2.2.1, hg.block h.2.2.2.2.2.1, hg.block h.2.2.2.2.2.2⟩
/-- Its cells. -/
theorem NB.cells {H : Nat} {w0 w : World} {px py qx qy lx ly hx hy : Int} (h : NB H w0 w px py qx qy lx ly hx hy) :
    (w.cell? ⟨H, 0, none⟩ = some (.int .i64 px) ∧ w.cell? ⟨H, 1, none⟩ = some (.int .i64 py)) ∧ (w.cell? ⟨H + 1, 0, none⟩ = some (.int .i64 qx) ∧ w.cell? ⟨H + 1, 1, none⟩ = some (.int .i64 qy)) ∧
    (w.cell? ⟨H + 2, 0, none⟩ = some (.int .i64 lx) ∧ w.cell? ⟨H + 2, 1, none⟩ = some (.int .i64 ly) ∧ w.cell? ⟨H + 2, 2, none⟩ = some (.int .i64 hx) ∧ w.cell? ⟨H + 2, 3, none⟩ = some (.int .i64 hy)) ∧
    (∀ k, k < 2 → w.cell? ⟨H + 5, k, none⟩ = some (.int .i64 (cX ⟨lx, ly, hx, hy⟩ k)) ∧ w.cell? ⟨H + 6, k, none⟩ = some (.int .i64 (cY ⟨lx, ly, hx, hy⟩ k))) := by
  obtain ⟨-, -, h3, h4, h5, h6, h7⟩ := h
  refine ⟨⟨(cells2 h3).1, (cells2 h3).2.1⟩, ⟨(cells2 h4).1, (cells2 h4).2.1⟩, cells4 h5, fun k hk => ?_⟩
  have : k = 0 ∨ k = 1 := by omega
  rcases this with rfl | rfl
  · exact ⟨(cells2 h6).1, (cells2 h7).1⟩
  · exact ⟨(cells2 h6).2.1, (cells2 h7).2.1⟩
theorem NB.cellsK {H : Nat} {w0 w : World} {px py qx qy lx ly hx hy : Int} (h : NB H w0 w px py qx qy lx ly hx hy) {k : Nat} (hk : k < 2) {cx cy : Int} (h1 : cx = cX ⟨lx, ly, hx, hy⟩ k) (h2 : cy = cY ⟨lx, ly, hx, hy⟩ k) :
    (w.cell? ⟨H, 0, none⟩ = some (.int .i64 px) ∧ w.cell? ⟨H, 1, none⟩ = some (.int .i64 py)) ∧ (w.cell? ⟨H + 1, 0, none⟩ = some (.int .i64 qx) ∧ w.cell? ⟨H + 1, 1, none⟩ = some (.int .i64 qy)) ∧
    (w.cell? ⟨H + 5, k, none⟩ = some (.int .i64 cx) ∧ w.cell? ⟨H + 6, k, none⟩ = some (.int .i64 cy)) := by
  subst h1 h2
  exact ⟨h.cells.1, h.cells.2.1, h.cells.2.2.2 k hk⟩
theorem plX_eq {p q c : Int} (h : p = q) : plX p q c = [] := if_pos h
theorem plX_ne {p q c : Int} (h : ¬ p = q) : plX p q c = [((c - p) * signI (q - p), (q - p) * signI (q - p))] := if_neg h
theorem w_sub {p c : Int} (hp : in24 p) (hc : in24 c) : wrap64 (c - p) = c - p := by
  obtain ⟨p1, p2⟩ := hp
  obtain ⟨c1, c2⟩ := hc
  unfold wrap64; omega
theorem w_sign {p c n : Int} (hp : in24 p) (hc : in24 c) : wrap64 ((c - p) * signI n) = (c - p) * signI n := by
  obtain ⟨p1, p2⟩ := hp
  obtain ⟨c1, c2⟩ := hc
  unfold signI
  split
  · rw [Int.mul_one]; unfold wrap64; omega
  · split
    · rw [Int.mul_neg, Int.mul_one]; unfold wrap64; omega
    · rw [Int.mul_zero]; unfold wrap64; omega
theorem w_prod {a b : Int} (ha : -33554432 ≤ a ∧ a ≤ 33554432) (hb : 1 ≤ b ∧ b ≤ 33554432) : wrap64 (a * b) = a * b := by
  have e1 : a * b ≤ 33554432 * b := Int.mul_le_mul_of_nonneg_right ha.2 (by omega)
  have e2 : -33554432 * b ≤ a * b := Int.mul_le_mul_of_nonneg_right ha.1 (by omega)
  unfold wrap64; omega
theorem pair_rng {a1 a2 c1 c2 : Int} (hu : -33554432 ≤ a1 ∧ a1 ≤ 33554432 ∧ 1 ≤ a2 ∧ a2 ≤ 33554432) (hv : -33554432 ≤ c1 ∧ c1 ≤ 33554432 ∧ 1 ≤ c2 ∧ c2 ≤ 33554432) (h1 : ¬ a1 < 0) (h2 : ¬ c2 < c1) (h3 : ¬ c1 * a2 ≤ a1 * c2) : 0 ≤ a1 ∧ a1 ≤ a2 ∧ 0 ≤ c1 ∧ c1 ≤ c2 := by
  have e0 : 0 ≤ a1 * c2 := Int.mul_nonneg (by omega) (by omega)
  have hc : 0 ≤ c1 := by
    by_cases h : 0 ≤ c1
    · exact h
    · have := Int.mul_nonpos_of_nonpos_of_nonneg (show c1 ≤ 0 by omega) (show 0 ≤ a2 by omega)
      omega
  have ha : a1 ≤ a2 := by
    by_cases h : a1 ≤ a2
    · exact h
    · have e1 : c1 * a2 ≤ c2 * a2 := Int.mul_le_mul_of_nonneg_right (by omega) (by omega)
      have e2 : a2 * c2 ≤ a1 * c2 := Int.mul_le_mul_of_nonneg_right (by omega) (by omega)
      have e3 : c2 * a2 = a2 * c2 := Int.mul_comm _ _
      omega
  omega
theorem hp_alloc (w : World) (o : Obj) : (w.alloc o).heap = w.heap.push o := rfl
theorem start_NB (w : World) (px py qx qy lx ly hx hy : Int) : NB w.heap.size w (((((((w.alloc (.cells #[.int .i64 px, .int .i64 py] 30)).alloc (.cells #[.int .i64 qx, .int .i64 qy] 30)).alloc (.cells #[.int .i64 lx, .int .i64 ly, .int .i64 hx, .int .i64 hy] 32)).alloc (.cells #[.int .i64 0, .int .i64 1] 3)).alloc (.cells #[.int .i64 1, .int .i64 1] 3)).alloc (.cells #[.int .i64 lx, .int .i64 hx] 3)).alloc (.cells #[.int .i64 ly, .int .i64 hy] 3)) px py qx qy lx ly hx hy := by
  refine ⟨(((((((Grows.refl w).al _).al _).al _).al _).al _).al _).al _, by simp, ?_, ?_, ?_, ?_, ?_⟩ <;> (simp only [hp_alloc, Array.getElem?_push, Array.size_push]; (repeat (first | rw [if_neg (by omega)] | rw [if_pos (by omega)])); try simp)
theorem start_ND (w : World) (px py qx qy lx ly hx hy : Int) (b : BoxI) : ND w.heap.size (((((((w.alloc (.cells #[.int .i64 px, .int .i64 py] 30)).alloc (.cells #[.int .i64 qx, .int .i64 qy] 30)).alloc (.cells #[.int .i64 lx, .int .i64 ly, .int .i64 hx, .int .i64 hy] 32)).alloc (.cells #[.int .i64 0, .int .i64 1] 3)).alloc (.cells #[.int .i64 1, .int .i64 1] 3)).alloc (.cells #[.int .i64 lx, .int .i64 hx] 3)).alloc (.cells #[.int .i64 ly, .int .i64 hy] 3))
    (.slice (some ⟨w.heap.size + 3, 0, none⟩) 2 2) (.slice (some ⟨w.heap.size + 4, 0, none⟩) 2 2) (plK px py qx qy b 0) := by
  refine ⟨⟨rfl, .inr ⟨w.heap.size + 3, 2, #[.int .i64 0, .int .i64 1], rfl, Nat.le_refl _, ?_, Nat.le_refl _, by unfold maxLen; decide, rfl, rfl⟩⟩, ⟨rfl, .inr ⟨w.heap.size + 4, 2, #[.int .i64 1, .int .i64 1], rfl, by omega, ?_, Nat.le_refl _, by unfold maxLen; decide, rfl, rfl⟩⟩, ⟨_, rfl, .inl rfl⟩, ⟨_, rfl, .inl rfl⟩, plK_head _ _ _ _ _ _⟩ <;> (simp only [hp_alloc, Array.getElem?_push, Array.size_push]; (repeat (first | rw [if_neg (by omega)] | rw [if_pos (by omega)])); try simp)
theorem one_cell {w : World} {b : Nat} {x : Value} {T : TypeId} (h : w.heap[b]? = some (.cells #[x] T (0, 0))) (j : Nat) (u : Value) (hj : [x][j]? = some u) : w.cell? ⟨b, j, none⟩ = some u := by
  cases j with
  | zero => simp at hj; subst hj; simp [World.cell?, h]
  | succ j => simp at hj
theorem own_two (w : World) (x y : Value) (T : TypeId) {B : Nat} (hB : B ≤ w.heap.size) : (w.alloc (.cells #[x, y] T)).ownsRow B T 1 (.slice (some ⟨w.heap.size, 0, none⟩) 2 2) 2 [x, y] :=
  ⟨rfl, .inr ⟨w.heap.size, 2, #[x, y], rfl, hB, heap_new _ _ _ rfl, Nat.le_refl _, by unfold maxLen; decide, rfl, rfl⟩⟩
end Go.Proofs.Ytlkihbehiojimaa
