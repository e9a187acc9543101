/-
  Layer 4: rows of points.
-/
import Derived.Test.YtigbojdnaeaojaaO3
namespace Go.Proofs.Ytigbojdnaeaojaa
open Go.RowKit Go.Tab Go.WideShapes

/-- A slice that reads as these points. -/
def PtsAt (w : World) (v : Value) (l : List (Int × Int)) : Prop :=
  l.length ≤ 1000000000 ∧ (((∃ a cap, v = .slice a 0 cap ∧ (a = none → cap = 0)) ∧ l = []) ∨ ∃ b off cap, v = .slice (some ⟨b, off, none⟩) l.length cap ∧ b < w.heap.size ∧ l.length ≤ cap ∧
    ∀ i, i < l.length → w.cell? ⟨b, off + i * 2, none⟩ = some (.int .i64 (l.getD i (0, 0)).1) ∧ w.cell? ⟨b, off + i * 2 + 1, none⟩ = some (.int .i64 (l.getD i (0, 0)).2))
theorem PtsAt.grows {w w' : World} {v : Value} {l : List (Int × Int)} (h : PtsAt w v l) (hg : Grows w w') : PtsAt w' v l := by
  obtain ⟨hl, h | ⟨b, off, cap, hv, hb, hcp, hc⟩⟩ := h
  · exact ⟨hl, .inl h⟩
  · refine ⟨hl, .inr ⟨b, off, cap, hv, Nat.lt_of_lt_of_le hb hg.size, hcp, fun i hi => ?_⟩⟩
    rw [Below.cell hg (p := ⟨b, off + i * 2, none⟩) hb, Below.cell hg (p := ⟨b, off + i * 2 + 1, none⟩) hb]
    exact hc i hi
theorem PtsAt.at_cell {w : World} {b off n cap i : Nat} {l : List (Int × Int)} (h : PtsAt w (.slice (some ⟨b, off, none⟩) n cap) l) (hi : i < l.length) :
    w.cell? ⟨b, off + i * 2, none⟩ = some (.int .i64 (l.getD i (0, 0)).1) ∧ w.cell? ⟨b, off + i * 2 + 1, none⟩ = some (.int .i64 (l.getD i (0, 0)).2) := by
  obtain ⟨_, ⟨_, rfl⟩ | ⟨b', off', cap', hv, hb, _, hc⟩⟩ := h
  · cases hi
  · cases hv; exact hc i hi
theorem PtsAt.at_ {w : World} {a : Option Addr} {n cap i : Nat} {l : List (Int × Int)} (h : PtsAt w (.slice a n cap) l) (hi : i < l.length) :
    ∃ b off, a = some ⟨b, off, none⟩ ∧ b < w.heap.size ∧ w.cell? ⟨b, off + i * 2, none⟩ = some (.int .i64 (l.getD i (0, 0)).1) ∧ w.cell? ⟨b, off + i * 2 + 1, none⟩ = some (.int .i64 (l.getD i (0, 0)).2) := by
  obtain ⟨_, ⟨_, rfl⟩ | ⟨b, off, cap', hv, hb, _, hc⟩⟩ := h
  · cases hi
  · cases hv; exact ⟨b, off, rfl, hb, hc i hi⟩
theorem PtsAt.shape {w : World} {v : Value} {l : List (Int × Int)} (h : PtsAt w v l) : ∃ a cap, v = .slice a l.length cap ∧ l.length ≤ cap ∧ (a = none → cap = 0) := by
  obtain ⟨_, ⟨⟨_, _, h, hz⟩, rfl⟩ | ⟨b, off, cap, hv, _, hc, _⟩⟩ := h
  · exact ⟨_, _, h, Nat.zero_le _, hz⟩
  · exact ⟨_, _, hv, hc, fun h => by cases h⟩
theorem PtsAt.take {w : World} {a : Option Addr} {n cap j : Nat} {l : List (Int × Int)} (h : PtsAt w (.slice a n cap) l) (hj : j ≤ n) : PtsAt w (.slice a j cap) (l.take j) := by
  obtain ⟨hl, ⟨⟨_, _, h, hz⟩, rfl⟩ | ⟨b', off', cap', hv, hb, hc, hi⟩⟩ := h
  · cases h
    have : j = 0 := by omega
    subst this
    exact ⟨Nat.zero_le _, .inl ⟨⟨_, _, rfl, hz⟩, rfl⟩⟩
  · cases hv
    have hlen : (l.take j).length = j := by rw [List.length_take]; omega
    refine ⟨by omega, .inr ⟨_, _, _, by rw [hlen], hb, by omega, fun i hi' => ?_⟩⟩
    rw [show (l.take j).getD i (0, 0) = l.getD i (0, 0) by rw [List.getD_eq_getElem?_getD, List.getD_eq_getElem?_getD, List.getElem?_take_of_lt (by omega)]]
    exact hi i (by omega)
theorem PtsAt.drop {w : World} {b off n cap j : Nat} {l : List (Int × Int)} (h : PtsAt w (.slice (some ⟨b, off, none⟩) n cap) l) (hj : j ≤ n) : PtsAt w (.slice (some ⟨b, off + j * 2, none⟩) (n - j) (cap - j)) (l.drop j) := by
  obtain ⟨hl, ⟨⟨_, _, h, hz⟩, rfl⟩ | ⟨b', off', cap', hv, hb, hc, hi⟩⟩ := h
  · cases h
    have : j = 0 := by omega
    subst this
    exact ⟨Nat.zero_le _, .inl ⟨⟨_, _, rfl, fun h => by cases h⟩, rfl⟩⟩
  · cases hv
    have hlen : (l.drop j).length = l.length - j := List.length_drop ..
    refine ⟨by omega, .inr ⟨_, _, _, by rw [hlen], hb, by omega, fun i hi' => ?_⟩⟩
    rw [show (l.drop j).getD i (0, 0) = l.getD (j + i) (0, 0) by rw [List.getD_eq_getElem?_getD, List.getD_eq_getElem?_getD, List.getElem?_drop]]
    have := hi (j + i) (by omega)
    rw [Nat.add_mul, ← Nat.add_assoc] at this
    exact this
theorem pts_nil (w : World) : PtsAt w (.slice none 0 0) [] := ⟨Nat.zero_le _, .inl ⟨⟨_, _, rfl, fun _ => rfl⟩, rfl⟩⟩

def flat (l : List (Int × Int)) : List Value := l.flatMap fun p => [.int .i64 p.1, .int .i64 p.2]
theorem flat_append (l m : List (Int × Int)) : flat (l ++ m) = flat l ++ flat m := by simp [flat]
theorem flat_length (l : List (Int × Int)) : (flat l).length = l.length * 2 := by
  induction l with
  | nil => rfl
  | cons p l ih => simp only [flat, List.flatMap_cons, List.length_append, List.length_cons, List.length_nil] at ih ⊢; omega
theorem flat_get (l : List (Int × Int)) (i : Nat) (h : i < l.length) : (flat l)[i * 2]? = some (.int .i64 (l.getD i (0, 0)).1) ∧ (flat l)[i * 2 + 1]? = some (.int .i64 (l.getD i (0, 0)).2) := by
  induction l generalizing i with
  | nil => cases h
  | cons p l ih =>
    cases i with
    | zero => exact ⟨rfl, rfl⟩
    | succ i =>
      have := ih i (by simpa using h)
      rw [Nat.succ_mul]
      exact this
theorem flat_cell {u : Value} (l : List (Int × Int)) (hu : u ∈ flat l) : u.oneCell' = true := by
  unfold flat at hu
  obtain ⟨p, _, hp⟩ := List.mem_flatMap.1 hu
  simp only [List.mem_cons, List.not_mem_nil, or_false] at hp
  rcases hp with rfl | rfl <;> rfl
theorem flat_at (l : List (Int × Int)) (j : Nat) (u : Value) (h : (flat l)[j]? = some u) : ∃ i, i < l.length ∧ ((j = i * 2 ∧ u = .int .i64 (l.getD i (0, 0)).1) ∨ (j = i * 2 + 1 ∧ u = .int .i64 (l.getD i (0, 0)).2)) := by
  have hj : j < l.length * 2 := by rw [← flat_length]; exact (List.getElem?_eq_some_iff.1 h).1
  refine ⟨j / 2, by omega, ?_⟩
  obtain ⟨h1, h2⟩ := flat_get l (j / 2) (by omega)
  by_cases hm : j % 2 = 0
  · left
    have : j = j / 2 * 2 := by omega
    refine ⟨this, ?_⟩
    rw [← this, h] at h1
    exact Option.some.inj h1
  · right
    have : j = j / 2 * 2 + 1 := by omega
    refine ⟨this, ?_⟩
    rw [← this, h] at h2
    exact Option.some.inj h2

theorem own_pts {w : World} {base : Nat} {E : TypeId} {v : Value} {l : List (Int × Int)} {n : Nat} (h : w.ownsRow base E 2 v n (flat l)) (hn : n = l.length) (hl : l.length ≤ 1000000000) : PtsAt w v l := by
  subst hn
  obtain ⟨_, ⟨h1, h2⟩ | ⟨g, cap, cur, hv, hg, hh, hc, hm, hs, ht⟩⟩ := h
  · have h0 : l.length = 0 := by have := flat_length l; rw [h2] at this; simp at this; omega
    exact ⟨hl, .inl ⟨⟨none, 0, h1, fun _ => rfl⟩, List.length_eq_zero_iff.1 h0⟩⟩
  · refine ⟨hl, .inr ⟨g, 0, cap, hv, (Array.getElem?_eq_some_iff.1 hh).1, hc, fun i hi => ?_⟩⟩
    obtain ⟨f1, f2⟩ := flat_get l i hi
    rw [← ht, List.getElem?_take_of_lt (by omega)] at f1 f2
    simp only [World.cell?, hh, Nat.zero_add]
    constructor
    · show (if false = true then none else cur[i * 2]?) = _
      simpa using f1
    · show (if false = true then none else cur[i * 2 + 1]?) = _
      simpa using f2
theorem pts_block {w : World} {b : Nat} {E : TypeId} {cs : Array Value} {l : List (Int × Int)} (h : w.heap[b]? = some (.cells cs E (0, 0))) (hc : cs.toList = flat l) (hl : l.length ≤ 1000000000) :
    PtsAt w (.slice (some ⟨b, 0, none⟩) l.length l.length) l := by
  refine ⟨hl, .inr ⟨b, 0, l.length, rfl, (Array.getElem?_eq_some_iff.1 h).1, Nat.le_refl _, fun i hi => ?_⟩⟩
  obtain ⟨f1, f2⟩ := flat_get l i hi
  rw [← hc] at f1 f2
  simp only [World.cell?, h, Nat.zero_add]
  constructor
  · show (if false = true then none else cs[i * 2]?) = _
    simpa using f1
  · show (if false = true then none else cs[i * 2 + 1]?) = _
    simpa using f2

/-- append of a row of points to a row of the call's own. -/
theorem append_pts {P : Program} {w : World} {ops : Array Oper} {rest : List Oper} {o : Oper} {a : Act} {Q : Exit → Act → World → Prop} (hgd : o.guard = none) (s x : Operand) (t : TypeId)
    (ho : o.op = .call { callee := .builtin .append, args := #[s, x], argTypes := #[t, t] })
    (base : Nat) (e : TypeId) (i : TypeInfo) (z : Value) (bytes : Nat) (ht : P.underlying t = some (.slice e)) (hi : P.info? e = some i) (hz : i.zero = some z)
    (hsize : i.size = 2) (hby : i.bytes = bytes) (hzs : z.cells.size = 2)
    (v : Value) (n : Nat) (xs : List Value) (hs : a.eval s = v) (hown : w.ownsRow base e 2 v n xs)
    (l : List (Int × Int)) (u : Value) (hx : a.eval x = u) (hu : PtsAt w u l)
    (h63 : n + l.length ≤ maxLen) (hbytes : (n + l.length) * bytes ≤ 140737488355328) (hbase : base ≤ w.heap.size)
    (h : ∀ v' w', w'.ownsRow base e 2 v' (n + l.length) (xs ++ flat l) → (∀ W : World, Grows W w → W.heap.size ≤ base → Grows W w') → wpList P ops Q rest (a.put o.dst v') w') : wpList P ops Q (o :: rest) a w := by
  have hgr : ∀ kk, v.ownBlock = some kk → base ≤ kk := fun kk hkk => by
    obtain ⟨_, ⟨rfl, _⟩ | ⟨g', cap', cur, rfl, hb', _⟩⟩ := hown
    · cases hkk
    · cases hkk; exact hb'
  have some_case : ∀ (ad : Addr) (c : Nat), u = .slice (some ad) l.length c → (∀ j u, (flat l)[j]? = some u → w.cell? (ad.add j) = some u) → wpList P ops Q (o :: rest) a w := fun ad c hux hcells =>
    wpList_append_own w hgd s x t ho base e i z 2 bytes ht hi hz hsize hby hzs (by decide) v n xs hs hown ad l.length c _ (hx.trans hux) (flat_length l) hcells
      (fun u hu => flat_cell l hu) h63 hbytes hbase
      (fun v' w' hv' hw' _ => h v' w' hv' fun W hW hWs => Below.grown hW hw' (by have := hW.size; omega) fun kk hkk => Nat.le_trans hWs (hgr kk hkk))
  obtain ⟨hl, ⟨⟨ad, c, hux, hac⟩, rfl⟩ | ⟨b, off, c, hux, hb, hc, hcl⟩⟩ := hu
  · cases ad with
    | none =>
      rw [hac rfl] at hux
      refine wpList_append_own_none hgd s x t ho base e i 2 ht hi v n xs hs hown (hx.trans hux) ?_
      exact h v w (by simpa [flat] using hown) fun W hW _ => hW
    | some ad => exact some_case ad c hux (fun j u hj => by simp [flat] at hj)
  · refine some_case _ c hux fun j u hj => ?_
    rw [add_plain]
    obtain ⟨i, hi, ⟨rfl, rfl⟩ | ⟨rfl, rfl⟩⟩ := flat_at l j u hj
    · exact (hcl i hi).1
    · rw [← Nat.add_assoc]; exact (hcl i hi).2

theorem infoP : (Try.prog.info? 47).map (fun i => (i.zero, i.size, i.bytes)) = some (some (.agg #[.int .i64 0, .int .i64 0]), 2, 16) := by kernel_rfl
theorem infoR : (Try.prog.info? 56).map (fun i => (i.zero, i.size, i.bytes)) = some (some (.agg #[.int .i64 0, .int .i64 0]), 2, 16) := by kernel_rfl

def lessP (p q : Int × Int) : Bool := if p.1 = q.1 then decide (p.2 < q.2) else decide (p.1 < q.1)
set_option maxHeartbeats 400000 in
theorem less_any (p q : Int × Int) (w : World) : Calls Try.prog 30 #[pt p.1 p.2, pt q.1 q.2] w (Ret (.bool (lessP p q)) w) := by
  obtain ⟨ax, ay⟩ := p
  obtain ⟨bx, b_y⟩ := q
  go_enter Try.func30, Try.ntmps30
  go_wp2
  all_goals
    go_ret
    exact ⟨ret_bool (by unfold lessP; split <;> simp_all), ((Grows.refl w).al _).al _⟩
set_option maxHeartbeats 400000 in
theorem rless_any (p q : Int × Int) (w : World) : Calls Try.prog 31 #[pt p.1 p.2, pt q.1 q.2] w (Ret (.bool (lessP p q)) w) := by
  obtain ⟨ax, ay⟩ := p
  obtain ⟨bx, b_y⟩ := q
  go_enter Try.func31, Try.ntmps31
  go_wp2
  all_goals
    go_ret
    exact ⟨ret_bool (by unfold lessP; split <;> simp_all), ((Grows.refl w).al _).al _⟩
set_option maxHeartbeats 400000 in
theorem of_any (x y : Int) (w : World) : Calls Try.prog 32 #[pt x y] w (Ret (pt x y) w) := by
  go_enter Try.func32, Try.ntmps32
  go_wp2
  exact bodyPost_ret (v := pt x y) (by simp [results, Try.results32, go_sem]) rfl ⟨rfl, ((Grows.refl w).al _).al _⟩
end Go.Proofs.Ytigbojdnaeaojaa
