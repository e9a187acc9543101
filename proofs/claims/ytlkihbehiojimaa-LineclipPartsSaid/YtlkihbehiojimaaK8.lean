/-
  Layer 22: the parts of a row that a box shows.
-/
import Derived.Test.YtlkihbehiojimaaK7
import Derived.Deep.AppendLies
namespace Go.Proofs.Ytlkihbehiojimaa
open Go.RowKit Go.Tab Go.WideShapes

/-- As Q; by a goto to one of two labels: J0, J1. -/
def Exit.jump2 (l0 l1 : Nat) (J0 J1 : Act → World → Prop) (Q : Exit → Act → World → Prop) : Exit → Act → World → Prop
  | .goto l, a, w => (l = l0 ∧ J0 a w) ∨ (l = l1 ∧ J1 a w)
  | e, a, w => Q e a w
theorem wp_scope_two {P : Program} {c b0 b1 : Code} {Q : Exit → Act → World → Prop} {a : Act} {w : World} (l0 l1 : Nat) (J0 J1 : Act → World → Prop) (μ0 μ1 : Act → World → Nat) (h0 : findLabel c l0 = some (.seq .skip b0)) (h1 : findLabel c l1 = some (.seq .skip b1))
    (pass1 : ∀ a w, J1 a w → b1.wp P (Exit.jump2 l0 l1 (fun a' w' => J0 a' w' ∧ μ0 a' w' < μ1 a w) (fun a' w' => J1 a' w' ∧ μ1 a' w' < μ1 a w) Q) a w)
    (pass0 : ∀ a w, J0 a w → (∀ a' w', J1 a' w' → μ1 a' w' ≤ μ0 a w → b1.wp P (Exit.jump2 l0 l1 (fun a' w' => J0 a' w' ∧ μ0 a' w' < μ0 a w) (fun a' w' => J1 a' w' ∧ μ1 a' w' < μ0 a w) Q) a' w') →
      b0.wp P (Exit.jump2 l0 l1 (fun a' w' => J0 a' w' ∧ μ0 a' w' < μ0 a w) (fun a' w' => J1 a' w' ∧ μ1 a' w' < μ0 a w) Q) a w)
    (first : (∀ a w, J0 a w → b0.wp P (Exit.jump2 l0 l1 J0 J1 Q) a w) → c.wp P (Exit.jump2 l0 l1 J0 J1 Q) a w) : (Code.scope c).wp P Q a w := by
  have weak1 : ∀ m a w, J1 a w → μ1 a w ≤ m → b1.wp P (Exit.jump2 l0 l1 (fun a' w' => J0 a' w' ∧ μ0 a' w' < m) (fun a' w' => J1 a' w' ∧ μ1 a' w' < m) Q) a w := fun m a w hJ hm => Code.wp_mono (fun e a' w' h => by
    cases e with
    | goto l =>
      rcases h with ⟨h, h2, h3⟩ | ⟨h, h2, h3⟩
      · exact .inl ⟨h, h2, by omega⟩
      · exact .inr ⟨h, h2, by omega⟩
    | _ => exact h) (pass1 a w hJ)
  have full0 : ∀ a w, J0 a w → b0.wp P (Exit.jump2 l0 l1 (fun a' w' => J0 a' w' ∧ μ0 a' w' < μ0 a w) (fun a' w' => J1 a' w' ∧ μ1 a' w' < μ0 a w) Q) a w := fun a w hJ => pass0 a w hJ fun a' w' hJ' hm => weak1 _ a' w' hJ' hm
  have hfirst : c.wp P (Exit.jump2 l0 l1 J0 J1 Q) a w := first fun a w hJ => Code.wp_mono (fun e a' w' h => by
    cases e with
    | goto l =>
      rcases h with ⟨h, h2, _⟩ | ⟨h, h2, _⟩
      · exact .inl ⟨h, h2⟩
      · exact .inr ⟨h, h2⟩
    | _ => exact h) (full0 a w hJ)
  intro b k cs
  have hg0 : gotoIn l0 (.inScope c :: k) = some (.code (.seq .skip b0) :: .inScope c :: k) := by simp [gotoIn, h0]
  have hg1 : gotoIn l1 (.inScope c :: k) = some (.code (.seq .skip b1) :: .inScope c :: k) := by simp [gotoIn, h1]
  have key : ∀ n, (∀ a w, μ0 a w = n → J0 a w → ∃ e a' w', Q e a' w' ∧ Arrives P (lone (b.at a (.code (.seq .skip b0) :: .inScope c :: k)) cs w) b k cs e a' w') ∧
      (∀ a w, μ1 a w = n → J1 a w → ∃ e a' w', Q e a' w' ∧ Arrives P (lone (b.at a (.code (.seq .skip b1) :: .inScope c :: k)) cs w) b k cs e a' w') := by
    intro n
    induction n using Nat.strongRecOn with
    | _ n ih =>
      have one : ∀ (bd : Code) (a : Act) (w : World), bd.wp P (Exit.jump2 l0 l1 (fun a' w' => J0 a' w' ∧ μ0 a' w' < n) (fun a' w' => J1 a' w' ∧ μ1 a' w' < n) Q) a w →
          ∃ e a' w', Q e a' w' ∧ Arrives P (lone (b.at a (.code (.seq .skip bd) :: .inScope c :: k)) cs w) b k cs e a' w' := by
        intro bd a w hp
        have hs : (Code.seq .skip bd).wp P (Exit.jump2 l0 l1 (fun a' w' => J0 a' w' ∧ μ0 a' w' < n) (fun a' w' => J1 a' w' ∧ μ1 a' w' < n) Q) a w := wp_seq (wp_skip hp)
        obtain ⟨e, a₁, w₁, hq, harr⟩ := hs b (.inScope c :: k) cs
        cases e with
        | normal => exact ⟨.normal, a₁, w₁, hq, Steps.trans harr (.one step_inScope)⟩
        | exit id => exact ⟨.exit id, a₁, w₁, hq, fun k' hk => harr k' (by simp [exitTo, hk])⟩
        | goto l' =>
          rcases hq with ⟨rfl, hJ', hlt⟩ | ⟨rfl, hJ', hlt⟩
          · obtain ⟨e₂, a₂, w₂, hq₂, harr₂⟩ := (ih _ hlt).1 a₁ w₁ rfl hJ'
            exact ⟨e₂, a₂, w₂, hq₂, .of_steps (harr _ hg0) harr₂⟩
          · obtain ⟨e₂, a₂, w₂, hq₂, harr₂⟩ := (ih _ hlt).2 a₁ w₁ rfl hJ'
            exact ⟨e₂, a₂, w₂, hq₂, .of_steps (harr _ hg1) harr₂⟩
        | ret => exact ⟨_, a₁, w₁, hq, harr⟩
        | panic ch => exact ⟨_, a₁, w₁, hq, harr⟩
        | outgrown => exact ⟨_, a₁, w₁, hq, harr⟩
      exact ⟨fun a w hn hJ => one b0 a w (hn ▸ full0 a w hJ), fun a w hn hJ => one b1 a w (hn ▸ pass1 a w hJ)⟩
  obtain ⟨e, a₁, w₁, hq, harr⟩ := hfirst b (.inScope c :: k) cs
  cases e with
  | normal => exact ⟨.normal, a₁, w₁, hq, .head step_scope (Steps.trans harr (.one step_inScope))⟩
  | exit id => exact ⟨.exit id, a₁, w₁, hq, fun k' hk => .head step_scope (harr k' (by simp [exitTo, hk]))⟩
  | goto l' =>
    rcases hq with ⟨rfl, hJ'⟩ | ⟨rfl, hJ'⟩
    · obtain ⟨e₂, a₂, w₂, hq₂, harr₂⟩ := (key _).1 a₁ w₁ rfl hJ'
      exact ⟨e₂, a₂, w₂, hq₂, .of_steps (.head step_scope (harr _ hg0)) harr₂⟩
    · obtain ⟨e₂, a₂, w₂, hq₂, harr₂⟩ := (key _).2 a₁ w₁ rfl hJ'
      exact ⟨e₂, a₂, w₂, hq₂, .of_steps (.head step_scope (harr _ hg1)) harr₂⟩
  | ret => exact ⟨_, a₁, w₁, hq, .of_steps (.one step_scope) harr⟩
  | panic ch => exact ⟨_, a₁, w₁, hq, .of_steps (.one step_scope) harr⟩
  | outgrown => exact ⟨_, a₁, w₁, hq, .of_steps (.one step_scope) harr⟩

/-- Is the edge behind a place shown? -/
def shS (b : BoxI) (l : List (Int × Int)) (i : Nat) : Bool := shownB (gp l i).1 (gp l i).2 (gp l (i + 1)).1 (gp l (i + 1)).2 b
def rowV (g : Nat) (p : Nat × Nat) : Value := .slice (some ⟨g, p.1 * 2, none⟩) (p.2 - p.1 + 1) (p.2 - p.1 + 1)
theorem rowV_cell (g : Nat) (p : Nat × Nat) : (rowV g p).oneCell' = true := rfl
theorem parts_len (s : Nat → Bool) (n : Nat) : (partsI s n 0).length ≤ n := by
  have key : ∀ m i, n - i = m → (partsI s n i).length ≤ n - i := by
    intro m
    induction m using Nat.strongRecOn with
    | _ m ih =>
      intro i hm
      by_cases hi : i < n
      · have r1 := runEnd_ge s n i
        rw [partsI_step s n hi, List.length_append]
        have := ih (n - (runEnd s n i + 1)) (by omega) (runEnd s n i + 1) rfl
        split <;> simp <;> omega
      · rw [partsI_end s n hi]; simp
  have := key n 0 (by omega)
  omega
theorem ownsRow_grows {w w' : World} {base : Nat} {T : TypeId} {s : Nat} {v : Value} {n : Nat} {xs : List Value} (h : w.ownsRow base T s v n xs) (hg : Grows w w') : w'.ownsRow base T s v n xs := by
  obtain ⟨h0, h1 | ⟨g, cap, cur, hv, hb, hh, rest⟩⟩ := h
  · exact ⟨h0, .inl h1⟩
  · exact ⟨h0, .inr ⟨g, cap, cur, hv, hb, hg.block hh, rest⟩⟩
/-- The parts, in one copy of the row. -/
def RetParts (b : BoxI) (l : List (Int × Int)) (w : World) : Ending → World → Prop := fun r w' => ∃ (v : Value) (g cp : Nat), r = .returned v ∧ w'.ownsRow w.heap.size 22 1 v (partsI (shS b l) l.length 0).length ((partsI (shS b l) l.length 0).map (rowV g)) ∧
  (l = [] ∨ PtsAt w' (.slice (some ⟨g, 0, none⟩) l.length cp) l) ∧ Grows w w'
theorem row1 (w : World) (x x' : Value) (T : TypeId) (h : x = x') (hx : x'.oneCell' = true) : RowAt 1 (w.alloc (.cells #[x] T)) (.slice (some ⟨w.heap.size, 0, none⟩) 1 1) 1 [x'] := by
  subst h
  exact ⟨rfl, by simpa using hx, .inr ⟨w.heap.size, 0, 1, rfl, by simp, fun j y hj => by
    cases j with
    | zero => cases hj; unfold World.cell?; rw [heap_new w _ _ rfl]; rfl
    | succ j => simp at hj⟩⟩
theorem infoSl : (Try.prog.info? 22).map (fun i => (i.zero, i.size, i.bytes)) = some (some (.slice none 0 0), 1, 24) := by kernel_rfl

set_option maxRecDepth 100000 in
set_option maxHeartbeats 8000000 in
/-- Behind the copy, of a row that isn't empty. -/
theorem parts_some (a : Option Addr) (n c : Nat) (l : List (Int × Int)) (b : BoxI) (w : World) (hu : PtsAt w (.slice a n c) l) (hln : l.length = n) (hn : n ≤ 1000) (hpos : 0 < n) :
    Calls Try.prog 14 #[.slice a n c, bx b] w (RetParts b l w) := by
  obtain ⟨i0, hi0, hz0, hz1, hz2⟩ := info_parts infoSl
  have HU := Lib.hid hu
  have HN := Lib.hid hln
  have HCL := Lib.hid (clone_any _ l _ (hu.grows ((Grows.refl w).al (.cells #[.int .i64 b.lx, .int .i64 b.ly, .int .i64 b.hx, .int .i64 b.hy] 26))) (by omega))
  clear hu hln
  go_enter Try.func14, Try.ntmps14
  go_wp2
  refine wp_scope_two 0 1 (fun a' wr => ∃ (i : Nat) (ev o : Value) (Acc : List (Nat × Nat)) (w1 : World) (g cp : Nat) (u2 u4 u9 u10 u11 u12 u13 u14 u15 u16 u17 u18 u19 u20 u21 u22 u23 u24 u25 u26 u27 u28 u29 u30 u31 u32 u33 u34 u35 u36 u37 u38 u39 u40 u41 u42 u43 u44 u45 u46 u47 u48 u49 u50 u51 : Value), a' = { tmps := #[.slice a n c, bx b, u2, .pointer (some ⟨w.heap.size, 0, none⟩), u4, o, .slice (some ⟨g, 0, none⟩) n cp, .int .i64 (i : Int), ev, u9, u10, u11, u12, u13, u14, u15, u16, u17, u18, u19, u20, u21, u22, u23, u24, u25, u26, u27, u28, u29, u30, u31, u32, u33, u34, u35, u36, u37, u38, u39, u40, u41, u42, u43, u44, u45, u46, u47, u48, u49, u50, u51], defers := [] } ∧ i ≤ n ∧ Acc ++ partsI (shS b l) n i = partsI (shS b l) n 0 ∧ PtsAt w1 (.slice (some ⟨g, 0, none⟩) n cp) l ∧ n ≤ cp ∧ Grows (w.alloc (.cells #[.int .i64 b.lx, .int .i64 b.ly, .int .i64 b.hx, .int .i64 b.hy] 26)) w1 ∧ wr.ownsRow w1.heap.size 22 1 o Acc.length (Acc.map (rowV g)) ∧ Grows w1 wr) (fun a' wr => ∃ (i e : Nat) (o : Value) (Acc : List (Nat × Nat)) (w1 : World) (g cp : Nat) (u2 u4 u9 u10 u11 u12 u13 u14 u15 u16 u17 u18 u19 u20 u21 u22 u23 u24 u25 u26 u27 u28 u29 u30 u31 u32 u33 u34 u35 u36 u37 u38 u39 u40 u41 u42 u43 u44 u45 u46 u47 u48 u49 u50 u51 : Value), a' = { tmps := #[.slice a n c, bx b, u2, .pointer (some ⟨w.heap.size, 0, none⟩), u4, o, .slice (some ⟨g, 0, none⟩) n cp, .int .i64 (i : Int), .int .i64 (e : Int), u9, u10, u11, u12, u13, u14, u15, u16, u17, u18, u19, u20, u21, u22, u23, u24, u25, u26, u27, u28, u29, u30, u31, u32, u33, u34, u35, u36, u37, u38, u39, u40, u41, u42, u43, u44, u45, u46, u47, u48, u49, u50, u51], defers := [] } ∧ i ≤ e ∧ e < n ∧ runEnd (shS b l) n i = runEnd (shS b l) n e ∧ Acc ++ partsI (shS b l) n i = partsI (shS b l) n 0 ∧ PtsAt w1 (.slice (some ⟨g, 0, none⟩) n cp) l ∧ n ≤ cp ∧ Grows (w.alloc (.cells #[.int .i64 b.lx, .int .i64 b.ly, .int .i64 b.hx, .int .i64 b.hy] 26)) w1 ∧ wr.ownsRow w1.heap.size 22 1 o Acc.length (Acc.map (rowV g)) ∧ Grows w1 wr) (fun a' _ => 2 * (n + 1 - (intOf (a'.tmps.getD 7 undef)).toNat)) (fun a' _ => 2 * (n + 1 - (intOf (a'.tmps.getD 8 undef)).toNat) - 1) rfl rfl ?_ ?_ ?_
  · rintro a' wr ⟨i, e, o, Acc, w1, g, cp, u2, u4, u9, u10, u11, u12, u13, u14, u15, u16, u17, u18, u19, u20, u21, u22, u23, u24, u25, u26, u27, u28, u29, u30, u31, u32, u33, u34, u35, u36, u37, u38, u39, u40, u41, u42, u43, u44, u45, u46, u47, u48, u49, u50, u51, rfl, hie, hen0, hrun, hacc, hpts, hncp, hg0, hown, hg⟩
    have HACC := Lib.hid hacc
    have HRUN := Lib.hid hrun
    have HPT := Lib.hid hpts
    have HG0 := Lib.hid hg0
    have HOW := Lib.hid hown
    have HG := Lib.hid hg
    clear hacc hrun hpts hg0 hown hg
    have hin : i < n := by omega
    obtain ⟨p, hp⟩ : ∃ p, p = gp l e := ⟨_, rfl⟩
    obtain ⟨q, hq⟩ : ∃ q, q = gp l (e + 1) := ⟨_, rfl⟩
    have e1 : IntKind.i64.wrap ((e : Int) + 1) = (e : Int) + 1 := IntWalk.i64_in _ (by omega)
    have e2 : ((e : Int) + 1).toNat = e + 1 := by omega
    have e3 : ¬ ((e : Int) + 1 < 0) := by omega
    have hel : e < n := hen0
    by_cases hen : e + 1 < n
    · have hen9 : ((e : Int) + 1 < (n : Int)) = True := eq_true (by omega)
      have hen7 : ¬ ((n : Int) ≤ (e : Int) + 1) := by omega
      obtain ⟨t, ht⟩ : ∃ t, t = shS b l e := ⟨_, rfl⟩
      have HSH : Hid (∀ w, Calls Try.prog 11 #[pt p.1 p.2, pt q.1 q.2, bx b] w (Ret (.bool t) w)) := Lib.hid fun w => by rw [ht, hp, hq]; exact shown_any _ _ _ _ b w
      have CC : Hid (∀ w', Grows wr w' → (w'.cell? ⟨g, e * 2, none⟩ = some (.int .i64 p.1) ∧ w'.cell? ⟨g, e * 2 + 1, none⟩ = some (.int .i64 p.2)) ∧ (w'.cell? ⟨g, (e + 1) * 2, none⟩ = some (.int .i64 q.1) ∧ w'.cell? ⟨g, (e + 1) * 2 + 1, none⟩ = some (.int .i64 q.2)) ∧
          (w'.cell? ⟨w.heap.size, 0, none⟩ = some (.int .i64 b.lx) ∧ w'.cell? ⟨w.heap.size, 1, none⟩ = some (.int .i64 b.ly) ∧ w'.cell? ⟨w.heap.size, 2, none⟩ = some (.int .i64 b.hx) ∧ w'.cell? ⟨w.heap.size, 3, none⟩ = some (.int .i64 b.hy))) := Lib.hid fun w' hg => by
        have k1 := (HPT.out.grows (HG.out.trans hg)).at_cell (i := e) (by rw [HN.out]; exact hel)
        have k2 := (HPT.out.grows (HG.out.trans hg)).at_cell (i := e + 1) (by rw [HN.out]; exact hen)
        rw [Nat.zero_add, show l.getD e (0, 0) = p from hp.symm] at k1
        rw [Nat.zero_add, show l.getD (e + 1) (0, 0) = q from hq.symm] at k2
        exact ⟨k1, k2, cells4 ((HG0.out.trans (HG.out.trans hg)).block (heap_new _ _ _ rfl))⟩
      have HTT := Lib.hid ht
      clear ht hp hq
      obtain ⟨px, py⟩ := p
      obtain ⟨qx, qy⟩ := q
      go_wp2_with fail
      refine wp_region_tab 18 (by kernel_rfl) (by kernel_rfl) ?_
      intro w0 hw0 hg1 hg1'
      simp only [List.take_succ_cons, List.take_zero, List.drop_succ_cons, List.drop_zero]
      refine tab_val (.int .i64 (e : Int)) (fun r w1 hr hg hA => by obtain ⟨q0, -⟩ := hA; have q0e : r (.tmp 8) = .int .i64 (e : Int) := q0; exact ⟨rfl, by simp [go_sem, q0e]⟩) ?_
      refine tab_val (.int .i64 ((e : Int) + 1)) (fun r w1 hr hg hA => by obtain ⟨⟨_, q0⟩, -⟩ := hA; have q0e : r (.tmp 17) = .int .i64 (e : Int) := q0; exact ⟨rfl, by simp [go_sem, hr.const, q0e, e1]⟩) ?_
      refine tab_val (.slice (some ⟨g, 0, none⟩) n cp) (fun r w1 hr hg hA => by obtain ⟨q0, -⟩ := hA; have q0e : r (.tmp 6) = .slice (some ⟨g, 0, none⟩) n cp := q0; exact ⟨rfl, by simp [go_sem, q0e]⟩) ?_
      refine tab_val (.int .i64 (n : Int)) (fun r w1 hr hg hA => by obtain ⟨⟨_, q0⟩, -⟩ := hA; have q0e : r (.tmp 19) = .slice (some ⟨g, 0, none⟩) n cp := q0; exact ⟨rfl, by simp [go_sem, q0e]⟩) ?_
      refine tab_val (.bool true) (fun r w1 hr hg hA => by obtain ⟨⟨_, q0⟩, ⟨_, q1⟩, -⟩ := hA; have q0e : r (.tmp 18) = .int .i64 ((e : Int) + 1) := q0; have q1e : r (.tmp 20) = .int .i64 (n : Int) := q1; exact ⟨rfl, by simp [go_sem, q0e, q1e, hen9]⟩) ?_
      refine tab_val (.bool true) (fun r w1 hr hg hA => by obtain ⟨⟨_, q0⟩, -⟩ := hA; have q0e : r (.tmp 21) = .bool true := q0; exact ⟨rfl, by simp [go_sem, q0e]⟩) ?_
      refine tab_val (.slice (some ⟨g, 0, none⟩) n cp) (fun r w1 hr hg hA => by obtain ⟨q0, ⟨_, q1⟩, -⟩ := hA; have q0e : r (.tmp 6) = .slice (some ⟨g, 0, none⟩) n cp := q0; have q1e : r (.tmp 22) = .bool true := q1; exact ⟨⟨_, q1e, rfl⟩, by simp [go_sem, q0e]⟩) ?_
      refine tab_val (.int .i64 (e : Int)) (fun r w1 hr hg hA => by obtain ⟨q0, ⟨_, q1⟩, -⟩ := hA; have q0e : r (.tmp 8) = .int .i64 (e : Int) := q0; have q1e : r (.tmp 22) = .bool true := q1; exact ⟨⟨_, q1e, rfl⟩, by simp [go_sem, q0e]⟩) ?_
      refine tab_val (.pointer (some ⟨g, e * 2, none⟩)) (fun r w1 hr hg hA => by obtain ⟨⟨_, q0⟩, ⟨_, q1⟩, ⟨_, q2⟩, -⟩ := hA; have q0e : r (.tmp 23) = .slice (some ⟨g, 0, none⟩) n cp := q0; have q1e : r (.tmp 24) = .int .i64 (e : Int) := q1; have q2e : r (.tmp 22) = .bool true := q2; exact ⟨⟨_, q2e, rfl⟩, by simp [go_sem, q0e, q1e, hel]⟩) ?_
      refine tab_val (pt px py) (fun r w1 hr hg hA => by obtain ⟨⟨_, q0⟩, ⟨_, q1⟩, -⟩ := hA; have q0e : r (.tmp 25) = .pointer (some ⟨g, e * 2, none⟩) := q0; have q1e : r (.tmp 22) = .bool true := q1; have hc := CC.out _ (hg1.trans hg); exact ⟨⟨_, q1e, rfl⟩, by simp [go_sem, q0e, hc]⟩) ?_
      refine tab_val (.slice (some ⟨g, 0, none⟩) n cp) (fun r w1 hr hg hA => by obtain ⟨q0, ⟨_, q1⟩, -⟩ := hA; have q0e : r (.tmp 6) = .slice (some ⟨g, 0, none⟩) n cp := q0; have q1e : r (.tmp 22) = .bool true := q1; exact ⟨⟨_, q1e, rfl⟩, by simp [go_sem, q0e]⟩) ?_
      refine tab_val (.int .i64 (e : Int)) (fun r w1 hr hg hA => by obtain ⟨q0, ⟨_, q1⟩, -⟩ := hA; have q0e : r (.tmp 8) = .int .i64 (e : Int) := q0; have q1e : r (.tmp 22) = .bool true := q1; exact ⟨⟨_, q1e, rfl⟩, by simp [go_sem, q0e]⟩) ?_
      refine tab_val (.int .i64 ((e : Int) + 1)) (fun r w1 hr hg hA => by obtain ⟨⟨_, q0⟩, ⟨_, q1⟩, -⟩ := hA; have q0e : r (.tmp 28) = .int .i64 (e : Int) := q0; have q1e : r (.tmp 22) = .bool true := q1; exact ⟨⟨_, q1e, rfl⟩, by simp [go_sem, hr.const, q0e, e1]⟩) ?_
      refine tab_val (.pointer (some ⟨g, (e + 1) * 2, none⟩)) (fun r w1 hr hg hA => by obtain ⟨⟨_, q0⟩, ⟨_, q1⟩, ⟨_, q2⟩, -⟩ := hA; have q0e : r (.tmp 27) = .slice (some ⟨g, 0, none⟩) n cp := q0; have q1e : r (.tmp 29) = .int .i64 ((e : Int) + 1) := q1; have q2e : r (.tmp 22) = .bool true := q2; exact ⟨⟨_, q2e, rfl⟩, by simp [go_sem, q0e, q1e, hen, e2, e3, hen7]⟩) ?_
      refine tab_val (pt qx qy) (fun r w1 hr hg hA => by obtain ⟨⟨_, q0⟩, ⟨_, q1⟩, -⟩ := hA; have q0e : r (.tmp 30) = .pointer (some ⟨g, (e + 1) * 2, none⟩) := q0; have q1e : r (.tmp 22) = .bool true := q1; have hc := CC.out _ (hg1.trans hg); exact ⟨⟨_, q1e, rfl⟩, by simp [go_sem, q0e, hc]⟩) ?_
      refine tab_val (bx b) (fun r w1 hr hg hA => by obtain ⟨q0, ⟨_, q1⟩, -⟩ := hA; have q0e : r (.tmp 3) = .pointer (some ⟨w.heap.size, 0, none⟩) := q0; have q1e : r (.tmp 22) = .bool true := q1; have hc := CC.out _ (hg1.trans hg); exact ⟨⟨_, q1e, rfl⟩, by simp [go_sem, q0e, hc]⟩) ?_
      refine tab_call (v := .bool t) (fun w1 hg => HSH.out w1) (fun r w1 hr hg hA => by obtain ⟨⟨_, q0⟩, ⟨_, q1⟩, ⟨_, q2⟩, ⟨_, q3⟩, -⟩ := hA; have q0e : r (.tmp 26) = pt px py := q0; have q1e : r (.tmp 31) = pt qx qy := q1; have q2e : r (.tmp 32) = bx b := q2; have q3e : r (.tmp 22) = .bool true := q3; exact ⟨⟨_, q3e, rfl⟩, by simp [go_sem, hr.func, q0e, q1e, q2e]⟩) ?_
      refine tab_val (.bool t) (fun r w1 hr hg hA => by obtain ⟨⟨_, q0⟩, ⟨_, q1⟩, -⟩ := hA; have q0e : r (.tmp 22) = .bool true := q0; have q1e : r (.tmp 33) = .bool t := q1; exact ⟨rfl, by simp [go_sem, q0e, q1e]⟩) ?_
      refine tab_end ?_
      simp only [List.reverse_cons, List.reverse_nil, List.nil_append, List.cons_append, Out, BlockP, forall_eq, forall_const, Act.put, List.setIfInBounds_toArray, List.set_cons_succ, List.set_cons_zero]
      intro wA hgA
      have GA := Lib.hid (hg1.trans hgA)
      clear hg1 hgA hg1' hw0 CC HSH hen9 hen7
      cases t with
      | true =>
        have HR2 : Hid (runEnd (shS b l) n i = runEnd (shS b l) n (e + 1)) := Lib.hid (by rw [HRUN.out]; exact runEnd_yes (shS b l) n hen HTT.out.symm)
        go_wp2
        go_step3
        exact .inr ⟨rfl, ⟨i, e + 1, o, Acc, w1, g, cp, _, _, _, _, _, _, _, _, _, _, _, _, _, _, _, _, _, _, _, _, _, _, _, _, _, _, _, _, _, _, _, _, _, _, _, _, _, _, _, _, _, _, _, _, _, rfl, by omega, hen, HR2.out, HACC.out, HPT.out, hncp, HG0.out, ownsRow_grows HOW.out GA.out, HG.out.trans GA.out⟩, by simp only [intOf, Array.getD_eq_getD_getElem?]; simp; omega⟩
      | false =>
        have HSTOP : Hid (¬ (e + 1 < n ∧ shS b l e = true)) := Lib.hid fun h => by rw [← HTT.out] at h; cases h.2
        have hre : runEnd (shS b l) n i = e := by rw [HRUN.out]; exact runEnd_no (shS b l) n HSTOP.out
        have HPS := Lib.hid (partsI_step (shS b l) n hin)
        rw [hre] at HPS
        clear hre
        have GW := Lib.hid (HG.out.trans GA.out)
        by_cases hi : i < e
        · have HAC : Hid ((Acc ++ [(i, e)]) ++ partsI (shS b l) n (e + 1) = partsI (shS b l) n 0) := Lib.hid (by rw [← HACC.out, HPS.out, if_pos hi, List.append_assoc])
          have HL9 : Hid (Acc.length ≤ 2000) := Lib.hid (by
            have h1 := HACC.out
            have h2 := parts_len (shS b l) n
            rw [← h1, List.length_append] at h2
            omega)
          have HEQ : Hid (Value.slice (some ⟨g, i * 2, none⟩) (e + 1 - i) (e + 1 - i) = rowV g (i, e)) := Lib.hid (by rw [show e + 1 - i = e - i + 1 from by omega]; rfl)
          clear HPS HACC HRUN HSTOP
          go_wp2_with (at_builtin; refine append_row rfl _ _ 38 rfl w1.heap.size 22 i0 _ 1 24 Try.underlying38 hi0 hz0 hz1 hz2 rfl (by decide) o Acc.length _ rfl (ownsRow_grows HOW.out (GA.out.al _)) 1 [rowV g (i, e)] _ rfl (row1 _ _ _ _ HEQ.out rfl) (by have := HL9.out; unfold maxLen; omega) (by have := HL9.out; omega) (by have := GW.out.size; rw [World.size_alloc]; omega) ?_; intro v5 w5 hown5 hgr5; have O5 := Lib.hid hown5; have G5 := Lib.hid (hgr5 w1 (GW.out.al _) (Nat.le_refl _)); clear hown5 hgr5)
          go_step3
          exact .inl ⟨rfl, ⟨e + 1, _, v5, Acc ++ [(i, e)], w1, g, cp, _, _, _, _, _, _, _, _, _, _, _, _, _, _, _, _, _, _, _, _, _, _, _, _, _, _, _, _, _, _, _, _, _, _, _, _, _, _, _, _, _, _, _, _, _, rfl, by omega, HAC.out, HPT.out, hncp, HG0.out, by rw [List.length_append, List.map_append]; exact O5.out, G5.out⟩, by simp only [intOf, Array.getD_eq_getD_getElem?]; simp; omega⟩
        · have HAC : Hid (Acc ++ partsI (shS b l) n (e + 1) = partsI (shS b l) n 0) := Lib.hid (by rw [← HACC.out, HPS.out, if_neg hi, List.nil_append])
          clear HPS HACC HRUN HSTOP
          go_wp2
          go_step3
          exact .inl ⟨rfl, ⟨e + 1, _, o, Acc, w1, g, cp, _, _, _, _, _, _, _, _, _, _, _, _, _, _, _, _, _, _, _, _, _, _, _, _, _, _, _, _, _, _, _, _, _, _, _, _, _, _, _, _, _, _, _, _, _, rfl, by omega, HAC.out, HPT.out, hncp, HG0.out, ownsRow_grows HOW.out GA.out, GW.out⟩, by simp only [intOf, Array.getD_eq_getD_getElem?]; simp; omega⟩
    · have HSTOP : Hid (¬ (e + 1 < n ∧ shS b l e = true)) := Lib.hid fun h => hen h.1
      have hen8 : ((e : Int) + 1 < (n : Int)) = False := eq_false (by omega)
      go_wp2_with fail
      refine wp_region_tab 18 (by kernel_rfl) (by kernel_rfl) ?_
      intro w0 hw0 hg1 hg1'
      simp only [List.take_succ_cons, List.take_zero, List.drop_succ_cons, List.drop_zero]
      refine tab_val (.int .i64 (e : Int)) (fun r w1 hr hg hA => by obtain ⟨q0, -⟩ := hA; have q0e : r (.tmp 8) = .int .i64 (e : Int) := q0; exact ⟨rfl, by simp [go_sem, q0e]⟩) ?_
      refine tab_val (.int .i64 ((e : Int) + 1)) (fun r w1 hr hg hA => by obtain ⟨⟨_, q0⟩, -⟩ := hA; have q0e : r (.tmp 17) = .int .i64 (e : Int) := q0; exact ⟨rfl, by simp [go_sem, hr.const, q0e, e1]⟩) ?_
      refine tab_val (.slice (some ⟨g, 0, none⟩) n cp) (fun r w1 hr hg hA => by obtain ⟨q0, -⟩ := hA; have q0e : r (.tmp 6) = .slice (some ⟨g, 0, none⟩) n cp := q0; exact ⟨rfl, by simp [go_sem, q0e]⟩) ?_
      refine tab_val (.int .i64 (n : Int)) (fun r w1 hr hg hA => by obtain ⟨⟨_, q0⟩, -⟩ := hA; have q0e : r (.tmp 19) = .slice (some ⟨g, 0, none⟩) n cp := q0; exact ⟨rfl, by simp [go_sem, q0e]⟩) ?_
      refine tab_val (.bool false) (fun r w1 hr hg hA => by obtain ⟨⟨_, q0⟩, ⟨_, q1⟩, -⟩ := hA; have q0e : r (.tmp 18) = .int .i64 ((e : Int) + 1) := q0; have q1e : r (.tmp 20) = .int .i64 (n : Int) := q1; exact ⟨rfl, by simp [go_sem, q0e, q1e, hen8]⟩) ?_
      refine tab_val (.bool false) (fun r w1 hr hg hA => by obtain ⟨⟨_, q0⟩, -⟩ := hA; have q0e : r (.tmp 21) = .bool false := q0; exact ⟨rfl, by simp [go_sem, q0e]⟩) ?_
      refine tab_skip (fun r w1 hr hg hA => by obtain ⟨q0, ⟨_, q1⟩, -⟩ := hA; have q0e : r (.tmp 6) = .slice (some ⟨g, 0, none⟩) n cp := q0; have q1e : r (.tmp 22) = .bool false := q1; exact ⟨_, q1e, rfl⟩) ?_
      refine tab_skip (fun r w1 hr hg hA => by obtain ⟨q0, ⟨_, q1⟩, -⟩ := hA; have q0e : r (.tmp 8) = .int .i64 (e : Int) := q0; have q1e : r (.tmp 22) = .bool false := q1; exact ⟨_, q1e, rfl⟩) ?_
      refine tab_skip (fun r w1 hr hg hA => by obtain ⟨⟨_, q0⟩, ⟨_, q1⟩, ⟨_, q2⟩, -⟩ := hA; have q0e : r (.tmp 23) = undef := q0; have q1e : r (.tmp 24) = undef := q1; have q2e : r (.tmp 22) = .bool false := q2; exact ⟨_, q2e, rfl⟩) ?_
      refine tab_skip (fun r w1 hr hg hA => by obtain ⟨⟨_, q0⟩, ⟨_, q1⟩, -⟩ := hA; have q0e : r (.tmp 25) = undef := q0; have q1e : r (.tmp 22) = .bool false := q1; exact ⟨_, q1e, rfl⟩) ?_
      refine tab_skip (fun r w1 hr hg hA => by obtain ⟨q0, ⟨_, q1⟩, -⟩ := hA; have q0e : r (.tmp 6) = .slice (some ⟨g, 0, none⟩) n cp := q0; have q1e : r (.tmp 22) = .bool false := q1; exact ⟨_, q1e, rfl⟩) ?_
      refine tab_skip (fun r w1 hr hg hA => by obtain ⟨q0, ⟨_, q1⟩, -⟩ := hA; have q0e : r (.tmp 8) = .int .i64 (e : Int) := q0; have q1e : r (.tmp 22) = .bool false := q1; exact ⟨_, q1e, rfl⟩) ?_
      refine tab_skip (fun r w1 hr hg hA => by obtain ⟨⟨_, q0⟩, ⟨_, q1⟩, -⟩ := hA; have q0e : r (.tmp 28) = undef := q0; have q1e : r (.tmp 22) = .bool false := q1; exact ⟨_, q1e, rfl⟩) ?_
      refine tab_skip (fun r w1 hr hg hA => by obtain ⟨⟨_, q0⟩, ⟨_, q1⟩, ⟨_, q2⟩, -⟩ := hA; have q0e : r (.tmp 27) = undef := q0; have q1e : r (.tmp 29) = undef := q1; have q2e : r (.tmp 22) = .bool false := q2; exact ⟨_, q2e, rfl⟩) ?_
      refine tab_skip (fun r w1 hr hg hA => by obtain ⟨⟨_, q0⟩, ⟨_, q1⟩, -⟩ := hA; have q0e : r (.tmp 30) = undef := q0; have q1e : r (.tmp 22) = .bool false := q1; exact ⟨_, q1e, rfl⟩) ?_
      refine tab_skip (fun r w1 hr hg hA => by obtain ⟨q0, ⟨_, q1⟩, -⟩ := hA; have q0e : r (.tmp 3) = .pointer (some ⟨w.heap.size, 0, none⟩) := q0; have q1e : r (.tmp 22) = .bool false := q1; exact ⟨_, q1e, rfl⟩) ?_
      refine tab_skip (fun r w1 hr hg hA => by obtain ⟨⟨_, q0⟩, ⟨_, q1⟩, ⟨_, q2⟩, ⟨_, q3⟩, -⟩ := hA; have q0e : r (.tmp 26) = undef := q0; have q1e : r (.tmp 31) = undef := q1; have q2e : r (.tmp 32) = undef := q2; have q3e : r (.tmp 22) = .bool false := q3; exact ⟨_, q3e, rfl⟩) ?_
      refine tab_val (.bool false) (fun r w1 hr hg hA => by obtain ⟨⟨_, q0⟩, ⟨_, q1⟩, -⟩ := hA; have q0e : r (.tmp 22) = .bool false := q0; have q1e : r (.tmp 33) = undef := q1; exact ⟨rfl, by simp [go_sem, hr.const, q0e]⟩) ?_
      refine tab_end ?_
      simp only [List.reverse_cons, List.reverse_nil, List.nil_append, List.cons_append, Out, BlockP, forall_eq, forall_const, Act.put, List.setIfInBounds_toArray, List.set_cons_succ, List.set_cons_zero]
      intro wA hgA
      have GA := Lib.hid (hg1.trans hgA)
      clear hg1 hgA hg1' hw0 hen8
      have hre : runEnd (shS b l) n i = e := by rw [HRUN.out]; exact runEnd_no (shS b l) n HSTOP.out
      have HPS := Lib.hid (partsI_step (shS b l) n hin)
      rw [hre] at HPS
      clear hre
      have GW := Lib.hid (HG.out.trans GA.out)
      by_cases hi : i < e
      · have HAC : Hid ((Acc ++ [(i, e)]) ++ partsI (shS b l) n (e + 1) = partsI (shS b l) n 0) := Lib.hid (by rw [← HACC.out, HPS.out, if_pos hi, List.append_assoc])
        have HL9 : Hid (Acc.length ≤ 2000) := Lib.hid (by
          have h1 := HACC.out
          have h2 := parts_len (shS b l) n
          rw [← h1, List.length_append] at h2
          omega)
        have HEQ : Hid (Value.slice (some ⟨g, i * 2, none⟩) (e + 1 - i) (e + 1 - i) = rowV g (i, e)) := Lib.hid (by rw [show e + 1 - i = e - i + 1 from by omega]; rfl)
        clear HPS HACC HRUN HSTOP
        go_wp2_with (at_builtin; refine append_row rfl _ _ 38 rfl w1.heap.size 22 i0 _ 1 24 Try.underlying38 hi0 hz0 hz1 hz2 rfl (by decide) o Acc.length _ rfl (ownsRow_grows HOW.out (GA.out.al _)) 1 [rowV g (i, e)] _ rfl (row1 _ _ _ _ HEQ.out rfl) (by have := HL9.out; unfold maxLen; omega) (by have := HL9.out; omega) (by have := GW.out.size; rw [World.size_alloc]; omega) ?_; intro v5 w5 hown5 hgr5; have O5 := Lib.hid hown5; have G5 := Lib.hid (hgr5 w1 (GW.out.al _) (Nat.le_refl _)); clear hown5 hgr5)
        go_step3
        exact .inl ⟨rfl, ⟨e + 1, _, v5, Acc ++ [(i, e)], w1, g, cp, _, _, _, _, _, _, _, _, _, _, _, _, _, _, _, _, _, _, _, _, _, _, _, _, _, _, _, _, _, _, _, _, _, _, _, _, _, _, _, _, _, _, _, _, _, rfl, by omega, HAC.out, HPT.out, hncp, HG0.out, by rw [List.length_append, List.map_append]; exact O5.out, G5.out⟩, by simp only [intOf, Array.getD_eq_getD_getElem?]; simp; omega⟩
      · have HAC : Hid (Acc ++ partsI (shS b l) n (e + 1) = partsI (shS b l) n 0) := Lib.hid (by rw [← HACC.out, HPS.out, if_neg hi, List.nil_append])
        clear HPS HACC HRUN HSTOP
        go_wp2
        go_step3
        exact .inl ⟨rfl, ⟨e + 1, _, o, Acc, w1, g, cp, _, _, _, _, _, _, _, _, _, _, _, _, _, _, _, _, _, _, _, _, _, _, _, _, _, _, _, _, _, _, _, _, _, _, _, _, _, _, _, _, _, _, _, _, _, rfl, by omega, HAC.out, HPT.out, hncp, HG0.out, ownsRow_grows HOW.out GA.out, GW.out⟩, by simp only [intOf, Array.getD_eq_getD_getElem?]; simp; omega⟩
  · rintro a' wr ⟨i, ev, o, Acc, w1, g, cp, u2, u4, u9, u10, u11, u12, u13, u14, u15, u16, u17, u18, u19, u20, u21, u22, u23, u24, u25, u26, u27, u28, u29, u30, u31, u32, u33, u34, u35, u36, u37, u38, u39, u40, u41, u42, u43, u44, u45, u46, u47, u48, u49, u50, u51, rfl, hin, hacc, hpts, hncp, hg0, hown, hg⟩ hF
    have HACC := Lib.hid hacc
    have HPT := Lib.hid hpts
    have HG0 := Lib.hid hg0
    have HOW := Lib.hid hown
    have HG := Lib.hid hg
    have HF := Lib.hid hF
    clear hacc hpts hg0 hown hg hF
    by_cases hi : i < n
    · have hi7 : ¬ ((n : Int) ≤ (i : Int)) := by omega
      go_wp2
      go_step3
      exact (‹∀ (a : Act) (w : World), Code.wp _ _ _ a w → _›) _ _ (HF.out _ _ ⟨i, i, o, Acc, w1, g, cp, _, _, _, _, _, _, _, _, _, _, _, _, _, _, _, _, _, _, _, _, _, _, _, _, _, _, _, _, _, _, _, _, _, _, _, _, _, _, _, _, _, _, _, _, _, rfl, Nat.le_refl _, hi, rfl, HACC.out, HPT.out, hncp, HG0.out, HOW.out, HG.out⟩ (by simp only [intOf, Array.getD_eq_getD_getElem?]; simp))
    · have hi7 : (n : Int) ≤ (i : Int) := by omega
      go_wp2
      go_ret
      have he := HACC.out
      rw [partsI_end (shS b l) n hi, List.append_nil] at he
      refine ⟨o, g, cp, rfl, ?_, .inr ?_, ?_⟩
      · rw [HN.out, ← he]
        exact own_base HOW.out (by have := HG0.out.size; simp at this; omega)
      · rw [HN.out]; exact HPT.out.grows HG.out
      · exact ((Grows.refl w).al _).trans (HG0.out.trans HG.out)
  · intro hbody
    have Hb := Lib.hid hbody
    clear hbody
    go_wp2_with fail
    refine HCL.out.mono ?_
    rintro _ w1 ⟨v, rfl, hown, hg⟩
    have HP := Lib.hid (own_pts hown rfl (by rw [HN.out]; omega))
    obtain ⟨g, cp, rfl, hgb, hglt⟩ := World.ownsRow.form hown (by rw [HN.out]; exact hpos)
    rw [HN.out] at HP ⊢
    obtain ⟨_, _, hv, hcp, _⟩ := HP.out.shape
    cases hv
    have HG := Lib.hid hg
    rw [HN.out] at hcp
    clear hown hg HU
    go_wp2
    go_step3
    exact (‹∀ (a : Act) (w : World), Code.wp _ _ _ a w → _›) _ _ (Hb.out _ _ ⟨0, _, _, [], w1, g, cp, _, _, _, _, _, _, _, _, _, _, _, _, _, _, _, _, _, _, _, _, _, _, _, _, _, _, _, _, _, _, _, _, _, _, _, _, _, _, _, _, _, _, _, _, _, rfl, Nat.zero_le _, rfl, HP.out, hcp, HG.out, World.ownsRow_nil _ _ _ _, Grows.refl _⟩)
end Go.Proofs.Ytlkihbehiojimaa
