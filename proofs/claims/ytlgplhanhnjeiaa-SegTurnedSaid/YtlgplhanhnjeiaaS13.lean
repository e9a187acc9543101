/-
  Layer 2: classes' words; the law on classes.
-/
import Derived.Test.YtlgplhanhnjeiaaS12
namespace Go.Proofs.Ytlgplhanhnjeiaa
open Go.RowKit Go.Tab Go.Sort

def wordB (n : Int) : ByteArray :=
  if n = 0 then ⟨#[97, 112, 97, 114, 116]⟩ else if n = 1 then ⟨#[116, 111, 117, 99, 104]⟩ else if n = 2 then ⟨#[116, 101, 101]⟩ else if n = 3 then ⟨#[99, 114, 111, 115, 115]⟩ else if n = 4 then ⟨#[111, 118, 101, 114, 108, 97, 112]⟩ else if n = 5 then ⟨#[115, 97, 109, 101]⟩ else ⟨#[]⟩
theorem word_any (n : Int) (w : World) : Calls Try.prog 13 #[.int .i64 n] w (Ret (.string (wordB n)) w) := by
  unfold wordB
  by_cases h0 : n = 0
  · subst h0
    go_enter Try.func13, Try.ntmps13
    go_wp2
    go_ret
    exact ⟨rfl, Grows.refl _⟩
  rw [if_neg h0]
  by_cases h1 : n = 1
  · subst h1
    go_enter Try.func13, Try.ntmps13
    go_wp2
    go_ret
    exact ⟨rfl, Grows.refl _⟩
  rw [if_neg h1]
  by_cases h2 : n = 2
  · subst h2
    go_enter Try.func13, Try.ntmps13
    go_wp2
    go_ret
    exact ⟨rfl, Grows.refl _⟩
  rw [if_neg h2]
  by_cases h3 : n = 3
  · subst h3
    go_enter Try.func13, Try.ntmps13
    go_wp2
    go_ret
    exact ⟨rfl, Grows.refl _⟩
  rw [if_neg h3]
  by_cases h4 : n = 4
  · subst h4
    go_enter Try.func13, Try.ntmps13
    go_wp2
    go_ret
    exact ⟨rfl, Grows.refl _⟩
  rw [if_neg h4]
  by_cases h5 : n = 5
  · subst h5
    go_enter Try.func13, Try.ntmps13
    go_wp2
    go_ret
    exact ⟨rfl, Grows.refl _⟩
  rw [if_neg h5]
  go_enter Try.func13, Try.ntmps13
  go_wp2
  go_ret
  exact ⟨rfl, Grows.refl _⟩

set_option maxRecDepth 100000 in
set_option maxHeartbeats 8000000 in
theorem law_classes (a b c d : Pt) (cl : Int) (w : World) : Calls Try.prog 3 #[pp a, pp b, pp c, pp d, .int .i64 cl] w (Ret (.bool true) w) := by
  have HC := Lib.hid (fun w => class_any a b c d w)
  have HW := Lib.hid (fun w => word_any cl w)
  have hmm : rightB [a, b, c, d] = (mayP a && mayP b && mayP c && mayP d) := right4 _ _ _ _ _ _ _ _
  have HR := Lib.hid (fun v w => all_any v [a, b, c, d] w)
  rw [hmm] at HR
  have H0 : Hid ((mayP a && mayP b && mayP c && mayP d) = false → clsP a b c d = (0, 5)) := Lib.hid (fun h => by unfold clsP; rw [if_pos h])
  have H1 : Hid ((mayP a && mayP b && mayP c && mayP d) = true → (a = b ∨ c = d) → clsP a b c d = (0, 1)) := Lib.hid (fun h h2 => by unfold clsP; rw [if_neg (by rw [h]; decide), if_pos h2])
  have H2 : Hid ((mayP a && mayP b && mayP c && mayP d) = true → ¬ (a = b ∨ c = d) → clsP a b c d = (refF a b c d, 0)) := Lib.hid (fun h h2 => by unfold clsP; rw [if_neg (by rw [h]; decide), if_neg h2, class_eq (fun e => h2 (.inl e)) (fun e => h2 (.inr e))])
  have RC0 : Hid ((mayP a && mayP b && mayP c && mayP d) = true → ∀ w, Calls Try.prog 11 #[pp a, pp b, pp c, pp d] w (Ret (.int .i64 (refF a b c d)) w)) := Lib.hid (fun h w => by
    simp only [Bool.and_eq_true] at h
    exact rclass_any a b c d w h.1.1.1 h.1.1.2 h.1.2 h.2)
  clear hmm
  generalize (mayP a && mayP b && mayP c && mayP d) = mm at HR H0 H1 H2 RC0
  generalize refF a b c d = rf at H2 RC0
  generalize clsP a b c d = q at HC H0 H1 H2
  obtain ⟨n, e⟩ := q
  obtain ⟨ax, ay⟩ := a
  obtain ⟨bx, b_y⟩ := b
  obtain ⟨cx, cy⟩ := c
  obtain ⟨dx, dy⟩ := d
  unfold pp at HC RC0 ⊢
  simp only [Prod.mk.injEq] at HC H0 H1 H2 RC0 ⊢
  have HWD : Hid (∀ k : Nat, cl = (k : Int) → k < 6 → #[Value.string ⟨#[97, 112, 97, 114, 116]⟩, Value.string ⟨#[116, 111, 117, 99, 104]⟩, Value.string ⟨#[116, 101, 101]⟩, Value.string ⟨#[99, 114, 111, 115, 115]⟩, Value.string ⟨#[111, 118, 101, 114, 108, 97, 112]⟩, Value.string ⟨#[115, 97, 109, 101]⟩][k]? = some (.string (wordB cl))) := Lib.hid (fun k h hk => by
    subst h
    match k, hk with
    | 0, _ => rfl
    | 1, _ => rfl
    | 2, _ => rfl
    | 3, _ => rfl
    | 4, _ => rfl
    | 5, _ => rfl)
  have HWN : Hid (¬ (0 ≤ cl ∧ cl ≤ 5) → wordB cl = ⟨#[]⟩) := Lib.hid (fun h => by
    unfold wordB
    rw [if_neg (by omega), if_neg (by omega), if_neg (by omega), if_neg (by omega), if_neg (by omega), if_neg (by omega)])
  generalize wordB cl = wd at HW HWD HWN
  go_enter Try.func3, Try.ntmps3
  go_wp2_with fail
  refine (HC.out _).mono ?_
  rintro _ wq ⟨rfl, hg⟩
  have HF : Hid (∀ w', Grows wq w' → _) := Lib.hid (fun w' (hg' : Grows wq w') => by obtain ⟨h0, h1, h2, h3⟩ := box4 (hg.trans hg'); exact And.intro (cells2 h0) (And.intro (cells2 h1) (And.intro (cells2 h2) (cells2 h3))))
  have G := Lib.hid (((((Grows.refl w).al _).al _).al _).al _ |>.trans hg)
  clear hg HC
  go_wp2_with fail
  refine wp_region_tab 11 (by kernel_rfl) (by kernel_rfl) ?_
  intro w0 hw0 hg1 hg1'
  simp only [List.take_succ_cons, List.take_zero, List.drop_succ_cons, List.drop_zero]
  refine tab_val (.agg #[.int .i64 ax, .int .i64 ay]) (fun r w1 hr hg hA => by obtain ⟨q0, -⟩ := hA; have q0e : r (.tmp 5) = .pointer (some ⟨w.heap.size, 0, none⟩) := q0; have hc := HF.out w1 (hg1.trans hg); exact ⟨rfl, by simp [go_sem, q0e, hc]⟩) ?_
  refine tab_call (v := .agg #[.int .i64 ax, .int .i64 ay]) (fun w1 hg => of_any ax ay w1) (fun r w1 hr hg hA => by obtain ⟨⟨_, q0⟩, -⟩ := hA; have q0e : r (.tmp 24) = .agg #[.int .i64 ax, .int .i64 ay] := q0; exact ⟨rfl, by simp [go_sem, hr.func, q0e]⟩) ?_
  refine tab_val (.agg #[.int .i64 bx, .int .i64 b_y]) (fun r w1 hr hg hA => by obtain ⟨q0, -⟩ := hA; have q0e : r (.tmp 6) = .pointer (some ⟨w.heap.size + 1, 0, none⟩) := q0; have hc := HF.out w1 (hg1.trans hg); exact ⟨rfl, by simp [go_sem, q0e, hc]⟩) ?_
  refine tab_call (v := .agg #[.int .i64 bx, .int .i64 b_y]) (fun w1 hg => of_any bx b_y w1) (fun r w1 hr hg hA => by obtain ⟨⟨_, q0⟩, -⟩ := hA; have q0e : r (.tmp 26) = .agg #[.int .i64 bx, .int .i64 b_y] := q0; exact ⟨rfl, by simp [go_sem, hr.func, q0e]⟩) ?_
  refine tab_val (.agg #[.int .i64 cx, .int .i64 cy]) (fun r w1 hr hg hA => by obtain ⟨q0, -⟩ := hA; have q0e : r (.tmp 7) = .pointer (some ⟨w.heap.size + 1 + 1, 0, none⟩) := q0; have hc := HF.out w1 (hg1.trans hg); exact ⟨rfl, by simp [go_sem, q0e, hc]⟩) ?_
  refine tab_call (v := .agg #[.int .i64 cx, .int .i64 cy]) (fun w1 hg => of_any cx cy w1) (fun r w1 hr hg hA => by obtain ⟨⟨_, q0⟩, -⟩ := hA; have q0e : r (.tmp 28) = .agg #[.int .i64 cx, .int .i64 cy] := q0; exact ⟨rfl, by simp [go_sem, hr.func, q0e]⟩) ?_
  refine tab_val (.agg #[.int .i64 dx, .int .i64 dy]) (fun r w1 hr hg hA => by obtain ⟨q0, -⟩ := hA; have q0e : r (.tmp 8) = .pointer (some ⟨w.heap.size + 1 + 1 + 1, 0, none⟩) := q0; have hc := HF.out w1 (hg1.trans hg); exact ⟨rfl, by simp [go_sem, q0e, hc]⟩) ?_
  refine tab_call (v := .agg #[.int .i64 dx, .int .i64 dy]) (fun w1 hg => of_any dx dy w1) (fun r w1 hr hg hA => by obtain ⟨⟨_, q0⟩, -⟩ := hA; have q0e : r (.tmp 30) = .agg #[.int .i64 dx, .int .i64 dy] := q0; exact ⟨rfl, by simp [go_sem, hr.func, q0e]⟩) ?_
  refine tab_block (.cells #[.int .i64 ax, .int .i64 ay, .int .i64 bx, .int .i64 b_y, .int .i64 cx, .int .i64 cy, .int .i64 dx, .int .i64 dy] 28 (0, 0)) (fun b => .slice (some ⟨b, 0, none⟩) 4 4) (fun r w1 hr hg hA => by obtain ⟨⟨_, q0⟩, ⟨_, q1⟩, ⟨_, q2⟩, ⟨_, q3⟩, -⟩ := hA; have q0e : r (.tmp 25) = .agg #[.int .i64 ax, .int .i64 ay] := q0; have q1e : r (.tmp 27) = .agg #[.int .i64 bx, .int .i64 b_y] := q1; have q2e : r (.tmp 29) = .agg #[.int .i64 cx, .int .i64 cy] := q2; have q3e : r (.tmp 31) = .agg #[.int .i64 dx, .int .i64 dy] := q3; exact ⟨rfl, by simp [go_sem, q0e, q1e, q2e, q3e]⟩) ?_
  refine tab_callP (v := .bool mm) (fun r w1 hr hg hA => by obtain ⟨⟨_, q0⟩, -⟩ := hA; obtain ⟨b0, q0, k0⟩ := q0; have q0e : r (.tmp 32) = .slice (some ⟨b0, 0, none⟩) 4 4 := q0; exact ⟨rfl, _, by simp [go_sem, hr.func, q0e], HR.out _ _ (pts_block (l := [(ax, ay), (bx, b_y), (cx, cy), (dx, dy)]) k0 rfl (by simp))⟩) ?_
  refine tab_val (.bool (!mm)) (fun r w1 hr hg hA => by obtain ⟨⟨_, q0⟩, -⟩ := hA; have q0e : r (.tmp 33) = .bool mm := q0; exact ⟨rfl, by simp [go_sem, q0e]⟩) ?_
  refine tab_end ?_
  simp only [List.reverse_cons, List.reverse_nil, List.nil_append, List.cons_append, Out, BlockP, forall_eq, forall_const, Act.put, List.setIfInBounds_toArray, List.set_cons_succ, List.set_cons_zero]

  rintro wc hgA u32 ⟨b32, rfl, -⟩
  have KG := Lib.hid (hg1.trans hgA)
  clear hg1 hg1' hgA hw0 HR
  go_upto_if 34 with (fail)
  generalize pt ax ay = va
  generalize pt bx b_y = vb
  generalize pt cx cy = vc
  generalize pt dx dy = vd
  go_cut [13, 14] (fun p q wx => p = .int .i64 n ∧ q = .int .i64 e ∧ Grows wq wx)
  case first =>
    cases mm with
    | false =>
      obtain ⟨rfl, rfl⟩ := H0.out rfl
      go_wp2_with fail
      go_meet
      exact ⟨rfl, rfl, KG.out⟩
    | true =>
      obtain ⟨⟨a0, a1, -, -⟩, ⟨b0, b1, -, -⟩, ⟨c0, c1, -, -⟩, ⟨d0, d1, -, -⟩⟩ := HF.out wc KG.out
      have RC := Lib.hid (RC0.out rfl)
      have H1 := Lib.hid (H1.out rfl)
      have H2 := Lib.hid (H2.out rfl)
      clear RC0 H0
      go_upto_region 5 with (fail)
      generalize Value.agg #[.int .i64 ax, .int .i64 ay] = va2
      generalize Value.agg #[.int .i64 bx, .int .i64 b_y] = vb2
      generalize Value.agg #[.int .i64 cx, .int .i64 cy] = vc2
      generalize Value.agg #[.int .i64 dx, .int .i64 dy] = vd2
      go_cut [42] (fun v wx => v = .bool (decide ((ax = bx ∧ ay = b_y) ∨ cx = dx ∧ cy = dy)) ∧ wx = wc)
      case first =>
        go_wp2_with fail
        all_goals
          go_meet
          first
            | exact ⟨congrArg Value.bool (decide_eq_true (by omega)).symm, rfl⟩
            | exact ⟨congrArg Value.bool (decide_eq_false (by omega)).symm, rfl⟩
      case rest =>
        obtain ⟨hv, hwc⟩ := hcut
        subst hwc
        by_cases hq : (ax = bx ∧ ay = b_y) ∨ cx = dx ∧ cy = dy
        · rw [decide_eq_true hq] at hv
          subst hv
          obtain ⟨rfl, rfl⟩ := H1.out hq
          clear hq
          go_wp2_with fail
          go_meet
          exact ⟨rfl, rfl, KG.out⟩
        · rw [decide_eq_false hq] at hv
          subst hv
          obtain ⟨hn, he⟩ := H2.out hq
          subst hn
          subst he
          clear hq a0 a1 b0 b1 c0 c1 d0 d1
          have RC := Lib.hid RC.out
          go_wp2_with fail
          refine wp_region_tab 10 (by kernel_rfl) (by kernel_rfl) ?_
          intro w0 hw0 hg1 hg1'
          simp only [List.take_succ_cons, List.take_zero, List.drop_succ_cons, List.drop_zero]
          refine tab_val (.agg #[.int .i64 ax, .int .i64 ay]) (fun r w1 hr hg hA => by obtain ⟨q0, -⟩ := hA; have q0e : r (.tmp 5) = .pointer (some ⟨w.heap.size, 0, none⟩) := q0; have hc := HF.out w1 ((KG.out.trans hg1).trans hg); exact ⟨rfl, by simp [go_sem, q0e, hc]⟩) ?_
          refine tab_call (v := .agg #[.int .i64 ax, .int .i64 ay]) (fun w1 hg => of_any ax ay w1) (fun r w1 hr hg hA => by obtain ⟨⟨_, q0⟩, -⟩ := hA; have q0e : r (.tmp 43) = .agg #[.int .i64 ax, .int .i64 ay] := q0; exact ⟨rfl, by simp [go_sem, hr.func, q0e]⟩) ?_
          refine tab_val (.agg #[.int .i64 bx, .int .i64 b_y]) (fun r w1 hr hg hA => by obtain ⟨q0, -⟩ := hA; have q0e : r (.tmp 6) = .pointer (some ⟨w.heap.size + 1, 0, none⟩) := q0; have hc := HF.out w1 ((KG.out.trans hg1).trans hg); exact ⟨rfl, by simp [go_sem, q0e, hc]⟩) ?_
          refine tab_call (v := .agg #[.int .i64 bx, .int .i64 b_y]) (fun w1 hg => of_any bx b_y w1) (fun r w1 hr hg hA => by obtain ⟨⟨_, q0⟩, -⟩ := hA; have q0e : r (.tmp 45) = .agg #[.int .i64 bx, .int .i64 b_y] := q0; exact ⟨rfl, by simp [go_sem, hr.func, q0e]⟩) ?_
          refine tab_val (.agg #[.int .i64 cx, .int .i64 cy]) (fun r w1 hr hg hA => by obtain ⟨q0, -⟩ := hA; have q0e : r (.tmp 7) = .pointer (some ⟨w.heap.size + 1 + 1, 0, none⟩) := q0; have hc := HF.out w1 ((KG.out.trans hg1).trans hg); exact ⟨rfl, by simp [go_sem, q0e, hc]⟩) ?_
          refine tab_call (v := .agg #[.int .i64 cx, .int .i64 cy]) (fun w1 hg => of_any cx cy w1) (fun r w1 hr hg hA => by obtain ⟨⟨_, q0⟩, -⟩ := hA; have q0e : r (.tmp 47) = .agg #[.int .i64 cx, .int .i64 cy] := q0; exact ⟨rfl, by simp [go_sem, hr.func, q0e]⟩) ?_
          refine tab_val (.agg #[.int .i64 dx, .int .i64 dy]) (fun r w1 hr hg hA => by obtain ⟨q0, -⟩ := hA; have q0e : r (.tmp 8) = .pointer (some ⟨w.heap.size + 1 + 1 + 1, 0, none⟩) := q0; have hc := HF.out w1 ((KG.out.trans hg1).trans hg); exact ⟨rfl, by simp [go_sem, q0e, hc]⟩) ?_
          refine tab_call (v := .agg #[.int .i64 dx, .int .i64 dy]) (fun w1 hg => of_any dx dy w1) (fun r w1 hr hg hA => by obtain ⟨⟨_, q0⟩, -⟩ := hA; have q0e : r (.tmp 49) = .agg #[.int .i64 dx, .int .i64 dy] := q0; exact ⟨rfl, by simp [go_sem, hr.func, q0e]⟩) ?_
          refine tab_call (v := .int .i64 n) (fun w1 hg => RC.out w1) (fun r w1 hr hg hA => by obtain ⟨⟨_, q0⟩, ⟨_, q1⟩, ⟨_, q2⟩, ⟨_, q3⟩, -⟩ := hA; have q0e : r (.tmp 44) = .agg #[.int .i64 ax, .int .i64 ay] := q0; have q1e : r (.tmp 46) = .agg #[.int .i64 bx, .int .i64 b_y] := q1; have q2e : r (.tmp 48) = .agg #[.int .i64 cx, .int .i64 cy] := q2; have q3e : r (.tmp 50) = .agg #[.int .i64 dx, .int .i64 dy] := q3; exact ⟨rfl, by simp [go_sem, hr.func, q0e, q1e, q2e, q3e]⟩) ?_
          refine tab_val (.int .i64 n) (fun r w1 hr hg hA => by obtain ⟨⟨_, q0⟩, -⟩ := hA; have q0e : r (.tmp 51) = .int .i64 n := q0; exact ⟨rfl, by simp [go_sem, q0e]⟩) ?_
          refine tab_end ?_
          simp only [List.reverse_cons, List.reverse_nil, List.nil_append, List.cons_append, Out, BlockP, forall_eq, forall_const, Act.put, List.setIfInBounds_toArray, List.set_cons_succ, List.set_cons_zero]

          intro wd1 hgA
          go_wp2_with fail
          go_meet
          exact ⟨rfl, rfl, (KG.out.trans hg1).trans hgA⟩
  case rest =>
    obtain ⟨rfl, rfl, hcg⟩ := hcut
    have KG := Lib.hid hcg
    clear hcg
    have HK := Lib.hid kn_any
    by_cases hcl : 0 ≤ cl ∧ cl ≤ 5
    · obtain ⟨k, rfl⟩ : ∃ k : Nat, cl = (k : Int) := ⟨cl.toNat, by omega⟩
      have HWI : Hid (#[Value.string ⟨#[97, 112, 97, 114, 116]⟩, Value.string ⟨#[116, 111, 117, 99, 104]⟩, Value.string ⟨#[116, 101, 101]⟩, Value.string ⟨#[99, 114, 111, 115, 115]⟩, Value.string ⟨#[111, 118, 101, 114, 108, 97, 112]⟩, Value.string ⟨#[115, 97, 109, 101]⟩][k]? = some (.string wd)) := Lib.hid (HWD.out k rfl (by omega))
      have hk6 : (k : Int) < 6 := by omega
      have hk0 : (0 : Int) ≤ (k : Int) := by omega
      have hk5 : (k : Int) ≤ 5 := by omega
      have hkn : k < 6 := by omega
      have hcell : (wc.alloc (.cells #[Value.string ⟨#[97, 112, 97, 114, 116]⟩, Value.string ⟨#[116, 111, 117, 99, 104]⟩, Value.string ⟨#[116, 101, 101]⟩, Value.string ⟨#[99, 114, 111, 115, 115]⟩, Value.string ⟨#[111, 118, 101, 114, 108, 97, 112]⟩, Value.string ⟨#[115, 97, 109, 101]⟩] 9)).cell? ⟨wc.heap.size, k, none⟩ = some (.string wd) := by
        simp only [World.cell?, heap_new wc _ _ rfl]
        exact HWI.out
      go_wp2_with (go_at_call 12; refine (HK.out _).mono ?_; rintro _ w5 ⟨rfl, hg5⟩)
      refine (HW.out _).mono ?_
      rintro _ w6 ⟨rfl, hg6⟩
      go_wp2
      go_ret
      exact ⟨by simp, ((((G.out.trans KG.out).al _).trans hg5).trans hg6)⟩
    · obtain rfl := HWN.out hcl
      go_wp2_with (go_at_call 12; refine (HK.out _).mono ?_; rintro _ w5 ⟨rfl, hg5⟩)
      all_goals
        refine (HW.out _).mono ?_
        rintro _ w6 ⟨rfl, hg6⟩
        go_wp2
        go_ret
        exact ⟨by simp, (((G.out.trans KG.out).trans hg5).trans hg6)⟩
end Go.Proofs.Ytlgplhanhnjeiaa
