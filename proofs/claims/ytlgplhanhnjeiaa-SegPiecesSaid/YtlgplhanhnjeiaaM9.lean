/-
  Layer 2: the stable sort of at most 40 cuts; what seg.Cuts answers.
-/
import Derived.Test.YtlgplhanhnjeiaaM8
namespace Go.Proofs.Ytlgplhanhnjeiaa
open Go.RowKit Go.Tab Go.Sort

/-- In the order of fractions. -/
def ByFrac (s : List Cut) : Prop := s.Pairwise (fun c d => c.2.1 * d.2.2 ≤ d.2.1 * c.2.2)
/-- A sort in place of an owned row of n cuts. -/
def SortsR (f : Nat) (args : Array Value) (o : Value) (n : Nat) (R : List Cut → Prop) (B : Nat) (w : World) : Prop :=
  Calls Try.prog f args w fun e w' => e = .returned (.tuple #[]) ∧ ∃ s : List Cut, R s ∧ s.length = n ∧ w'.ownsRow B 61 4 o n (ccells s) ∧ w.grownBy w' o.ownBlock
theorem get_toList {d : Array CutB} {i : Nat} (h : i < d.toList.length) : d.toList[i] = d[i]! := by
  have h' : i < d.size := by simpa using h
  rw [getElem!_pos d i h', Array.getElem_toList]
theorem byFrac_of {d : Array CutB} (h : SrtB 0 d.size d) : ByFrac (d.toList.map (·.1)) := by
  unfold ByFrac
  rw [List.pairwise_map, List.pairwise_iff_getElem]
  intro i j hi hj hij
  rw [get_toList hi, get_toList hj]
  exact (ltB_not _ _).1 (h i j (Nat.zero_le _) hij (by simpa using hj))
theorem perm_of {N : Nat} {d d' : Array CutB} (h : PermIn 0 N d d') (hN : d.size = N) : (d'.toList.map (·.1)).Perm (d.toList.map (·.1)) := by
  obtain ⟨h1, -, h3⟩ := h
  have e1 : d.extract 0 N = d := by rw [← hN]; exact Array.extract_size
  have e2 : d'.extract 0 N = d' := by rw [← hN, ← h1]; exact Array.extract_size
  rw [e1, e2] at h3
  exact h3.map _
theorem toB : ∀ (l : List Cut), (∀ c ∈ l, okC c) → ∃ d : Array CutB, d.toList.map (·.1) = l
  | [], _ => ⟨#[], rfl⟩
  | c :: l, h => by
    obtain ⟨d, hd⟩ := toB l (fun x hx => h x (List.mem_cons_of_mem _ hx))
    exact ⟨(⟨c, h c List.mem_cons_self⟩ :: d.toList).toArray, by simpa using hd⟩
theorem sta_all (g N cap B : Nat) (d : Array CutB) (w : World) (h : w.ownsRow B 61 4 (.slice (some ⟨g, 0, none⟩) N cap) N (rowB d)) (hN : d.size = N) (hm : N ≤ 40) : StaC g N cap B d w := by
  by_cases h1 : N < 20
  · exact sta_small g N cap B d w h hN h1
  · by_cases h2 : N = 20
    · exact sta_20 g N cap B d w h hN h2
    · by_cases h3 : N = 40
      · exact sta_40 g N cap B d w h hN h3
      · exact sta_mid g N cap B d w h hN (by omega) (by omega)
set_option maxHeartbeats 1000000 in
theorem ins_nil (w : World) : Calls Try.prog 44 #[.slice none 0 0, .int .i64 0, .int .i64 0, fnC] w fun e w' => e = .returned (.tuple #[]) ∧ w' = w := by
  go_enter Try.func44, Try.ntmps44
  go_wp2_with fail
  refine wp_loop_rounds 1 ?_
  rw [rounds_succ]
  go_wp2
  go_end0
  exact ⟨rfl, rfl⟩
set_option maxHeartbeats 1000000 in
theorem sta_nil (w : World) : Calls Try.prog 42 #[.slice none 0 0, .int .i64 0, fnC] w fun e w' => e = .returned (.tuple #[]) ∧ w' = w := by
  go_enter Try.func42, Try.ntmps42
  go_wp2_with fail
  refine wp_loop_rounds 1 ?_
  rw [rounds_succ]
  go_wp2_with (go_at_call 44; refine (ins_nil _).mono ?_; rintro e w' ⟨rfl, rfl⟩)
  refine wp_loop_rounds 1 ?_
  rw [rounds_succ]
  go_wp2
  go_end0
  exact ⟨rfl, rfl⟩
set_option maxHeartbeats 1000000 in
theorem sortStable_any (o : Value) (l : List Cut) (B : Nat) (w : World) (h : w.ownsRow B 61 4 o l.length (ccells l)) (hm : l.length ≤ 40) (hl : ∀ c ∈ l, okC c) :
    SortsR 30 #[o, .func (.func 31) #[] #[]] o l.length (fun s => s.Perm l ∧ ByFrac s) B w := by
  obtain ⟨d, hd⟩ : ∃ d : Array CutB, d.toList.map (·.1) = l := toB l hl
  have hdn : d.size = l.length := by rw [← hd]; simp
  obtain ⟨-, ⟨hv, h0⟩ | ⟨g, cap, cur, rfl, -, -, hc, -⟩⟩ := id h
  · subst hv
    have hl0 : l = [] := by cases l with | nil => rfl | cons c l => simp [ccells] at h0
    subst hl0
    unfold SortsR
    go_enter Try.func30, Try.ntmps30
    go_wp2_with (go_at_call 42; refine (sta_nil _).mono ?_; rintro e w' ⟨rfl, rfl⟩)
    go_end0
    exact ⟨rfl, [], ⟨List.Perm.refl _, List.Pairwise.nil⟩, rfl, h, grown_self _ _⟩
  · have HI := sta_all g l.length cap B d w (by rw [rowB_ccells, hd]; exact h) hdn hm
    unfold StaC at HI
    unfold SortsR
    generalize hn : l.length = n at *
    clear h
    go_enter Try.func30, Try.ntmps30
    go_wp2_with (go_at_call 42; refine HI.mono ?_; rintro e w' ⟨rfl, d', ⟨hP, hS⟩, hO, hG⟩)
    have hs : d'.size = n := hP.1.trans hdn
    go_end0
    refine ⟨rfl, d'.toList.map (·.1), ⟨hd ▸ perm_of hP hdn, byFrac_of (hs ▸ hS)⟩, by simp [hs], ?_, hG⟩
    rw [← rowB_ccells]
    exact hO

theorem atF_val {px py qx qy c : Int} (h : (atF px py qx qy c).2 = true) : (atF px py qx qy c).1 = (2 * (py * (qx - px) + (c - px) * (qy - py)) + (qx - px)) / (2 * (qx - px)) := by
  unfold atF at h ⊢
  split at h
  · cases h
  · rename_i h1
    rw [if_neg h1]
theorem rnd_self {p w c : Int} (hw : 0 < w) (h : p * w + (c - p) * w = c * w) : (2 * (p * w + (c - p) * w) + w) / (2 * w) = c := by
  rw [h, show 2 * (c * w) + w = w + c * (2 * w) by grind, Int.add_mul_ediv_right _ _ (by omega), Int.ediv_eq_zero_of_lt (by omega) (by omega)]
  omega
theorem cutX_good {a b : Pt} {c : Int} {k : Cut} (h : cutX a b c = some k) : goodC a b k ∧ k.1.1 = c := by
  obtain ⟨ax, ay⟩ := a
  obtain ⟨bx, b_y⟩ := b
  unfold cutX at h
  split at h
  · rename_i h1
    injection h with h
    subst h
    refine ⟨?_, rfl⟩
    have hbd := atX_bd h1
    unfold goodC okC ptAt absI
    unfold atX at h1 ⊢
    simp only at h1 hbd ⊢
    split at h1
    · rename_i hs
      rw [if_pos hs]
      obtain ⟨-, -, h2, h3⟩ := atF_in h1
      rw [if_neg (show ¬ 0 ≤ c - ax by omega), if_neg (show ¬ 0 ≤ bx - ax by omega)]
      refine ⟨⟨by omega, by omega, by omega, by omega⟩, by omega, by omega, ?_⟩
      rw [atF_val h1]
      unfold rndR
      refine Prod.ext ?_ ?_
      · show c = (2 * (ax * -(bx - ax) + -(c - ax) * (bx - ax)) + -(bx - ax)) / (2 * -(bx - ax))
        rw [show -(c - ax) * (bx - ax) = (c - ax) * -(bx - ax) by grind]
        exact (rnd_self (by omega) (by grind)).symm
      · show _ = (2 * (ay * -(bx - ax) + -(c - ax) * (b_y - ay)) + -(bx - ax)) / (2 * -(bx - ax))
        rw [show ay * -(bx - ax) + -(c - ax) * (b_y - ay) = b_y * (ax - bx) + (c - bx) * (ay - b_y) by grind, show -(bx - ax) = ax - bx by omega]
    · rename_i hs
      rw [if_neg hs]
      obtain ⟨-, -, h2, h3⟩ := atF_in h1
      rw [if_pos (show 0 ≤ c - ax by omega), if_pos (show 0 ≤ bx - ax by omega)]
      refine ⟨⟨by omega, by omega, by omega, by omega⟩, by omega, by omega, ?_⟩
      rw [atF_val h1]
      exact Prod.ext (rnd_self (by omega) (by grind)).symm rfl
  · cases h
theorem cutY_eq (a b : Pt) (c : Int) : cutY a b c = (cutX (a.2, a.1) (b.2, b.1) c).map (fun k => ((k.1.2, k.1.1), k.2)) := by
  unfold cutY cutX atY
  split <;> rfl
theorem cutY_good {a b : Pt} {c : Int} {k : Cut} (h : cutY a b c = some k) : goodC a b k ∧ k.1.2 = c := by
  rw [cutY_eq, Option.map_eq_some_iff] at h
  obtain ⟨j, hj, rfl⟩ := h
  obtain ⟨⟨h1, h2, h3, h4⟩, h5⟩ := cutX_good hj
  refine ⟨⟨h1, h2, h3, ?_⟩, h5⟩
  unfold ptAt at h4 ⊢
  rw [Prod.ext_iff] at h4
  exact Prod.ext h4.2 h4.1
theorem cuts_good {a b : Pt} {xs ys : List Int} {k : Cut} (h : k ∈ cutsF a b xs ys) : goodC a b k := by
  unfold cutsF at h
  rcases List.mem_append.1 h with h | h
  · obtain ⟨c, -, hc⟩ := List.mem_filterMap.1 h; exact (cutX_good hc).1
  · obtain ⟨c, -, hc⟩ := List.mem_filterMap.1 h; exact (cutY_good hc).1
/-- These are the cuts. -/
def IsCuts (a b : Pt) (xs ys : List Int) (l : List Pt) : Prop :=
  l.Pairwise (bef a b) ∧ ∀ p, p ∈ l ↔ (p ≠ a ∧ p ≠ b ∧ ∃ c ∈ cutsF a b xs ys, c.1 = p)
theorem IsCuts.uniq {a b : Pt} {xs ys : List Int} {l m : List Pt} (h : IsCuts a b xs ys l) (k : IsCuts a b xs ys m) : l = m :=
  strict_uniq h.1 k.1 (fun p => (h.2 p).trans (k.2 p).symm)
theorem isCuts_of {a b : Pt} {xs ys : List Int} {s : List Cut} (hp : s.Perm (cutsF a b xs ys)) (hs : ByFrac s) : IsCuts a b xs ys (dedF b a s) := by
  have hg : ∀ c ∈ s, goodC a b c := fun c hc => cuts_good (hp.mem_iff.1 hc)
  have h1 : s.Pairwise (fun c d => leP a b c.1 d.1) := by
    refine List.Pairwise.imp_of_mem ?_ hs
    intro c d hc hd h
    exact good_le (hg c hc) (hg d hd) h
  obtain ⟨k1, -, k3⟩ := ded_spec s a h1 (fun c hc => good_a (hg c hc))
  refine ⟨k1, fun p => (k3 p).trans ?_⟩
  constructor
  · rintro ⟨q1, q2, c, hc, e⟩; exact ⟨q1, q2, c, hp.mem_iff.1 hc, e⟩
  · rintro ⟨q1, q2, c, hc, e⟩; exact ⟨q1, q2, c, hp.mem_iff.2 hc, e⟩
theorem dedF_len (b : Pt) : ∀ (s : List Cut) (l : Pt), (dedF b l s).length ≤ s.length
  | [], _ => Nat.zero_le _
  | c :: r, l => by
    rw [dedF]
    split
    · exact Nat.le_succ_of_le (dedF_len b r l)
    · exact Nat.succ_le_succ (dedF_len b r c.1)
theorem cutsF_len (a b : Pt) (xs ys : List Int) : (cutsF a b xs ys).length ≤ xs.length + ys.length := by
  unfold cutsF
  rw [List.length_append]
  exact Nat.add_le_add (List.length_filterMap_le _ _) (List.length_filterMap_le _ _)

set_option maxRecDepth 100000 in
set_option maxHeartbeats 4000000 in
theorem Cuts_of2 (R : List Cut → Prop) (a b : Pt) (v u : Value) (xs ys : List Int) (w : World) (hx : IntsAt w v xs) (hy : IntsAt w u ys) (hlx : xs.length ≤ 1000) (hly : ys.length ≤ 1000)
    (hsort : ∀ B o W, W.ownsRow B 61 4 o (cutsF a b xs ys).length (ccells (cutsF a b xs ys)) → SortsR 30 #[o, .func (.func 31) #[] #[]] o (cutsF a b xs ys).length R B W) :
    Calls Try.prog 17 #[pp a, pp b, v, u] w (fun e w' => ∃ o s, e = .returned o ∧ R s ∧ s.length = (cutsF a b xs ys).length ∧ w'.ownsRow w.heap.size 23 2 o (dedF b a s).length (flat (dedF b a s)) ∧ Grows w w') := by
  obtain ⟨i0, hi0, hz0, hz1, hz2⟩ := info_parts infoPt2
  have HC := Lib.hid (fun w' (hg : Grows w w') => cuts_any a b v u xs ys w' (hx.grows hg) (hy.grows hg) hlx hly)
  have hle : (cutsF a b xs ys).length ≤ 2000 := by
    unfold cutsF
    rw [List.length_append]
    have h1 := List.length_filterMap_le (cutX a b) xs
    have h2 := List.length_filterMap_le (cutY a b) ys
    omega
  obtain ⟨av, cv, rfl, -, -⟩ := hx.shape
  obtain ⟨au, cu, rfl, -, -⟩ := hy.shape
  generalize cutsF a b xs ys = L at hsort hle HC ⊢
  obtain ⟨n, hn⟩ : ∃ n, n = L.length := ⟨_, rfl⟩
  unfold SortsR at hsort
  rw [← hn] at hsort hle ⊢
  rw [hn] at hsort
  have HS := Lib.hid hsort
  have HN := Lib.hid hn
  clear hx hy hsort hn
  obtain ⟨ax, ay⟩ := a
  obtain ⟨bx, b_y⟩ := b
  unfold pp at HC ⊢
  simp only at HC ⊢
  go_enter Try.func17, Try.ntmps17
  go_wp2_with fail
  have B3 := Lib.hid ((Grows.alloc _ (.cells #[.int .i64 bx, .int .i64 b_y] 23)).block (heap_new w (.cells #[.int .i64 ax, .int .i64 ay] 23) _ rfl))
  have B4 := Lib.hid (heap_new (w.alloc (.cells #[.int .i64 ax, .int .i64 ay] 23)) (.cells #[.int .i64 bx, .int .i64 b_y] 23) (w.heap.size + 1) (by simp))
  have G := Lib.hid (((Grows.refl w).al (.cells #[.int .i64 ax, .int .i64 ay] 23)).al (.cells #[.int .i64 bx, .int .i64 b_y] 23))
  generalize (w.alloc (.cells #[.int .i64 ax, .int .i64 ay] 23)).alloc (.cells #[.int .i64 bx, .int .i64 b_y] 23) = wq at B3 B4 G ⊢
  obtain ⟨c30, c31, -, -⟩ := cells2 B3.out
  obtain ⟨c40, c41, -, -⟩ := cells2 B4.out
  go_step3
  go_wp2_with (go_at_call 29; refine (HC.out _ G.out).mono ?_; rintro e w1 ⟨o1, rfl, HO1, HG1⟩)
  refine (HS.out _ _ _ HO1).mono ?_
  have HO1 := Lib.hid HO1
  have HG1 := Lib.hid HG1
  rintro e w2 ⟨rfl, s, hRs, hsl, HO2, HGB⟩
  have HRS := Lib.hid hRs
  have HSL := Lib.hid (hsl.trans HN.out.symm)
  clear hRs hsl
  have G2 := Lib.hid (G.out.trans (grown_all HO1.out HG1.out HGB))
  have E3 := Lib.hid ((grown_all HO1.out HG1.out HGB).block B3.out)
  have E4 := Lib.hid ((grown_all HO1.out HG1.out HGB).block B4.out)
  have HLT := Lib.hid (show w.heap.size + 1 < w2.heap.size from (Array.getElem?_eq_some_iff.1 E4.out).1)
  have HO2 := Lib.hid (own_base (base' := 0) HO2 (Nat.zero_le _))
  rw [← HN.out] at HO2
  clear HGB HO1 HG1 B3 B4 G c30 c31 c40 c41 HC HS HN
  obtain ⟨c30, c31, -, -⟩ := cells2 E3.out
  obtain ⟨c40, c41, -, -⟩ := cells2 E4.out
  obtain ⟨ao, co, ho, hao⟩ : ∃ ao co, o1 = .slice ao n co ∧ (0 < n → ∃ g, ao = some ⟨g, 0, none⟩) := by
    obtain ⟨-, ⟨hv, h0⟩ | ⟨g, cap, cur, hv, -⟩⟩ := HO2.out
    · exact ⟨none, 0, by rw [hv, h0], fun h => by omega⟩
    · exact ⟨_, _, hv, fun _ => ⟨g, rfl⟩⟩
  subst ho
  have HA := Lib.hid hao
  clear hao
  go_wp2_with fail
  have E3 := Lib.hid ((Grows.alloc w2 (.cells #[.int .i64 ax, .int .i64 ay] 23)).block E3.out)
  have E4 := Lib.hid ((Grows.alloc w2 (.cells #[.int .i64 ax, .int .i64 ay] 23)).block E4.out)
  have E5 := Lib.hid (heap_new w2 (.cells #[.int .i64 ax, .int .i64 ay] 23) _ rfl)
  have HO2 := Lib.hid (ownsRow_grows HO2.out (Grows.alloc w2 (.cells #[.int .i64 ax, .int .i64 ay] 23)))
  have G2 := Lib.hid (G2.out.trans (Grows.alloc w2 (.cells #[.int .i64 ax, .int .i64 ay] 23)))
  have hsz : (w2.alloc (.cells #[.int .i64 ax, .int .i64 ay] 23)).heap.size = w2.heap.size + 1 := by simp
  have HWN := Lib.hid (show w.heap.size + 1 < w2.heap.size from HLT.out)
  generalize w2.alloc (.cells #[.int .i64 ax, .int .i64 ay] 23) = wl at E3 E4 E5 HO2 G2 hsz ⊢
  generalize w2.heap.size = N at E5 hsz HWN ⊢
  have HSZ := Lib.hid hsz
  clear hsz c30 c31 c40 c41
  go_step3
  go_wp2_with fail
  clear HO1 HG1
  go_loopw [10, 24] (fun o' i wr => ∃ (k : Nat) (o : Value) (acc : List Pt) (lx ly : Int), k ≤ n ∧ o = o' ∧ i = .int .i64 (k : Int) ∧ Hid (wr.ownsRow (N + 1) 23 2 o acc.length (flat acc)) ∧ Hid (wr.heap[N]? = some (.cells #[.int .i64 lx, .int .i64 ly] 23 (0, 0))) ∧ Hid (wr.heap[w.heap.size + 1]? = some (.cells #[.int .i64 bx, .int .i64 b_y] 23 (0, 0))) ∧ Hid (wr.ownsRow 0 61 4 (.slice ao n co) n (ccells s)) ∧ Hid (Grows w wr) ∧ Hid (acc ++ dedF (bx, b_y) (lx, ly) (s.drop k) = dedF (bx, b_y) (ax, ay) s) ∧ acc.length ≤ k) (fun _ i _ => n - (intOf i).toNat)
  case atStart => exact ⟨0, _, [], ax, ay, Nat.zero_le _, rfl, rfl, Lib.hid (World.ownsRow_nil _ _ _ _), E5, E4, HO2, G2, Lib.hid rfl, Nat.le_refl _⟩
  case round =>
    obtain ⟨k, o, acc, lx, ly, hkn, rfl, rfl, HO, HL, HB, HF, HG, HD, hal⟩ := hrel
    by_cases hlt : k < n
    · obtain ⟨g, rfl⟩ := HA.out (by omega)
      obtain ⟨f0, f1, f2, f3⟩ := own4_cells HF.out HSL.out hlt
      have HNR := Lib.hid (Array.getElem?_eq_some_iff.1 HL.out).1
      have HDK : Hid (s.drop k = s[k]! :: s.drop (k + 1)) := Lib.hid (by rw [List.drop_eq_getElem_cons (by rw [HSL.out]; exact hlt), getElem!_pos s k (by rw [HSL.out]; exact hlt)])
      obtain ⟨⟨⟨px, py⟩, pf, pd⟩, hpk⟩ : ∃ c, c = s[k]! := ⟨_, rfl⟩
      rw [← hpk] at f0 f1 f2 f3 HDK
      clear hpk
      simp only at f0 f1 f2 f3
      rw [HDK.out] at HD
      clear HDK
      have hltz : (k : Int) < (n : Int) := by omega
      have hk0 : (0 : Int) ≤ (k : Int) := by omega
      have hkb : k < 2000 := by omega
      obtain ⟨l0, l1, -, -⟩ := cells2 ((Grows.alloc wr (.cells #[.int .i64 px, .int .i64 py, .int .i64 pf, .int .i64 pd] 61)).block HL.out)
      obtain ⟨b0, b1, -, -⟩ := cells2 ((Grows.alloc wr (.cells #[.int .i64 px, .int .i64 py, .int .i64 pf, .int .i64 pd] 61)).block HB.out)
      go_upto_region 8 with (fail)
      have HC0 := Lib.hid (heap_new wr (.cells #[.int .i64 px, .int .i64 py, .int .i64 pf, .int .i64 pd] 61) _ rfl)
      have HL := Lib.hid ((Grows.alloc wr (.cells #[.int .i64 px, .int .i64 py, .int .i64 pf, .int .i64 pd] 61)).block HL.out)
      have HB := Lib.hid ((Grows.alloc wr (.cells #[.int .i64 px, .int .i64 py, .int .i64 pf, .int .i64 pd] 61)).block HB.out)
      have HF := Lib.hid (ownsRow_grows HF.out (Grows.alloc wr (.cells #[.int .i64 px, .int .i64 py, .int .i64 pf, .int .i64 pd] 61)))
      have HO := Lib.hid (ownsRow_grows HO.out (Grows.alloc wr (.cells #[.int .i64 px, .int .i64 py, .int .i64 pf, .int .i64 pd] 61)))
      have HG := Lib.hid (HG.out.trans (Grows.alloc wr (.cells #[.int .i64 px, .int .i64 py, .int .i64 pf, .int .i64 pd] 61)))
      have HLT := Lib.hid (show N < wr.heap.size from HNR.out)
      clear f0 f1 f2 f3 hltz
      generalize wr.alloc (.cells #[.int .i64 px, .int .i64 py, .int .i64 pf, .int .i64 pd] 61) = wc at HC0 HL HB HF HO HG l0 l1 b0 b1 ⊢
      generalize wr.heap.size = M at HC0 HLT ⊢
      obtain ⟨p0, p1, -, -⟩ := cells4q HC0.out
      generalize Value.agg #[.int .i64 px, .int .i64 py, .int .i64 pf, .int .i64 pd] = vc
      go_cut [37] from 28 to 45 (fun v wx => v = .bool (decide ((px = lx ∧ py = ly) ∨ px = bx ∧ py = b_y)) ∧ wx = wc)
      case first =>
        go_wp2_with fail
        all_goals
          go_meet
          first
            | exact ⟨congrArg Value.bool (decide_eq_true (by omega)).symm, rfl⟩
            | exact ⟨congrArg Value.bool (decide_eq_false (by omega)).symm, rfl⟩
      case rest =>
        obtain ⟨hv, hwc⟩ := hcut
        subst hwc
        by_cases hq : (px = lx ∧ py = ly) ∨ px = bx ∧ py = b_y
        · rw [decide_eq_true hq] at hv
          subst hv
          have HD2 : Hid (acc ++ dedF (bx, b_y) (lx, ly) (s.drop (k + 1)) = dedF (bx, b_y) (ax, ay) s) := Lib.hid (by rw [← HD.out]; congr 1; rw [dedF, if_pos (by simpa only [Prod.mk.injEq] using hq)])
          clear HD hq
          go_wp2_with fail
          exact ⟨⟨k + 1, o, acc, lx, ly, by omega, rfl, by simp, HO, HL, HB, HF, HG, HD2, by omega⟩, by simp only [intOf]; omega⟩
        · rw [decide_eq_false hq] at hv
          subst hv
          have HD2 : Hid (acc ++ (px, py) :: dedF (bx, b_y) (px, py) (s.drop (k + 1)) = dedF (bx, b_y) (ax, ay) s) := Lib.hid (by rw [← HD.out]; congr 1; rw [dedF, if_neg (by simpa only [Prod.mk.injEq] using hq)])
          clear HD hq
          have HC1 := Lib.hid ((Grows.alloc wc (.cells #[.int .i64 px, .int .i64 py] 23)).block HC0.out)
          have HL1 := Lib.hid ((Grows.alloc wc (.cells #[.int .i64 px, .int .i64 py] 23)).block HL.out)
          have HB1 := Lib.hid ((Grows.alloc wc (.cells #[.int .i64 px, .int .i64 py] 23)).block HB.out)
          have HF1 := Lib.hid (ownsRow_grows HF.out (Grows.alloc wc (.cells #[.int .i64 px, .int .i64 py] 23)))
          have HO1 := Lib.hid (ownsRow_grows HO.out (Grows.alloc wc (.cells #[.int .i64 px, .int .i64 py] 23)))
          have HG1 := Lib.hid (HG.out.trans (Grows.alloc wc (.cells #[.int .i64 px, .int .i64 py] 23)))
          have HN1 := Lib.hid (heap_new wc (.cells #[.int .i64 px, .int .i64 py] 23) _ rfl)
          have HLN := Lib.hid (Array.getElem?_eq_some_iff.1 HL1.out).1
          have HAL := Lib.hid hal
          have HKB := Lib.hid hkb
          clear HO HF HL HB HG HC0 l0 l1 b0 b1
          go_wp2_with (at_builtin; go_loud (refine append_row2 rfl _ _ 40 rfl (N + 1) 23 i0 _ 2 16 Try.underlying40 hi0 hz0 hz1 hz2 rfl (by decide) o acc.length (flat acc) rfl HO1.out 1 [.int .i64 px, .int .i64 py] _ rfl (row_two HN1.out rfl rfl) (by have := HAL.out; have := HKB.out; unfold maxLen; omega) (by have := HAL.out; have := HKB.out; omega) (by have := HLN.out; omega) ?_; intro o2 wd hown hgr; clear p0 p1; have HC2 := Lib.hid (grown_block HO1.out HC1.out (by decide) hgr); have HL2 := Lib.hid (grown_low HO1.out HL1.out (Nat.lt_succ_self N) hgr); have HB2 := Lib.hid (grown_low HO1.out HB1.out (Nat.lt_succ_of_lt HWN.out) hgr); have HF2 := Lib.hid (own_other HO1.out HF1.out (by decide) hgr); have HG2 := Lib.hid (Below.grown HG1.out hgr HG1.out.size (fun q hq => (by have := (HO1.out.lt q hq).1; have := HWN.out; omega))); have HO2 := Lib.hid hown; obtain ⟨p0, p1, -, -⟩ := cells4q HC2.out; obtain ⟨l0, l1, l2, l3⟩ := cells2 HL2.out; clear HC1 HL1 HB1 HF1 HO1 HG1 HN1 hown hgr))
          have hN1 : ∀ q, (o2.ownBlock = some q) → q ≠ N := fun q hq => by have := (HO2.out.lt q hq).1; omega
          have hN2 := own_ne_type HF2.out HL2.out (by decide)
          have hS : ∀ q, q ≠ N → ((wd.setCell ⟨N, 0, none⟩ (.int .i64 px)).setCell ⟨N, 1, none⟩ (.int .i64 py)).heap[q]? = wd.heap[q]? := fun q hq => set2o hq
          have hwn := HWN.out
          have hfl : flat (acc ++ [(px, py)]) = flat acc ++ [.int .i64 px, .int .i64 py] := by simp [flat]
          refine ⟨⟨k + 1, o2, acc ++ [(px, py)], px, py, by omega, rfl, by simp, Lib.hid (own_of_heap (by rw [List.length_append, hfl]; exact HO2.out) (fun q hq => hS q (hN1 q hq))), Lib.hid (set2 HL2.out), Lib.hid ((hS _ (by omega)).trans HB2.out), Lib.hid (own_of_heap HF2.out (fun q hq => hS q (hN2 q hq))), Lib.hid ((HG2.out.setCell (by show w.heap.size ≤ N; omega) _).setCell (by show w.heap.size ≤ N; omega) _), Lib.hid (by rw [List.append_assoc]; exact HD2.out), by rw [List.length_append]; exact Nat.add_le_add_right hal 1⟩, by simp only [intOf]; omega⟩
    · obtain rfl : k = n := by omega
      go_wp2_with fail
      rw [Exit.noGoto_ret]
      go_ret
      have hd : acc = dedF (bx, b_y) (ax, ay) s := by
        rw [← HD.out, List.drop_eq_nil_of_le (by rw [HSL.out]; exact Nat.le_refl _)]; simp [dedF]
      refine ⟨o, s, rfl, HRS.out, HSL.out, ?_, HG.out⟩
      rw [← hd]
      exact own_base HO.out (by have := HWN.out; omega)
theorem Cuts_any (a b : Pt) (v u : Value) (xs ys : List Int) (w : World) (hx : IntsAt w v xs) (hy : IntsAt w u ys) (hlx : xs.length ≤ 20) (hly : ys.length ≤ 20) :
    Calls Try.prog 17 #[pp a, pp b, v, u] w (fun e w' => ∃ o l, e = .returned o ∧ IsCuts a b xs ys l ∧ l.length ≤ 40 ∧ w'.ownsRow w.heap.size 23 2 o l.length (flat l) ∧ Grows w w') := by
  have hlen := cutsF_len a b xs ys
  refine (Cuts_of2 (fun s => s.Perm (cutsF a b xs ys) ∧ ByFrac s) a b v u xs ys w hx hy (by omega) (by omega) (fun B o W h => sortStable_any o _ B W h (by omega) (fun c hc => (cuts_good hc).1))).mono ?_
  rintro e w' ⟨o, s, rfl, ⟨hp, hs⟩, hl, ho, hg⟩
  exact ⟨o, dedF b a s, rfl, isCuts_of hp hs, by have := dedF_len b s a; omega, ho, hg⟩
end Go.Proofs.Ytlgplhanhnjeiaa
