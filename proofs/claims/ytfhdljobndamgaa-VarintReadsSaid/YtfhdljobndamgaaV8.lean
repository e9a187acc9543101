/-
  Layer 7: all numbers of bytes: the program's.
-/
import Derived.Test.YtfhdljobndamgaaV7
namespace Go.Proofs.Ytfhdljobndamgaa
open Go.RowKit Go.Tab

/-- Row's three variables, and its row of numbers. -/
def St (W : World) (B : Nat) (v : Value) (p : Nat) (acc : List Nat) (w : World) : Prop :=
  w.heap[B]? = some (.cells #[v] 24 (0, 0)) ∧ (∃ u, w.heap[B + 1]? = some (.cells #[u] 22 (0, 0)) ∧ w.ownsRow (B + 3) 23 1 u acc.length (acc.map fun x : Nat => .int .u64 (x : Int))) ∧
    w.heap[B + 2]? = some (.cells #[.int .i64 p] 3 (0, 0)) ∧ Grows W w

theorem cells1 {w : World} {b : Nat} {x : Value} {T : TypeId} (h : w.heap[b]? = some (.cells #[x] T (0, 0))) : w.cell? ⟨b, 0, none⟩ = some x ∧ w.frozen? ⟨b, 0, none⟩ = false := by
  constructor <;> simp [World.cell?, World.frozen?, h]

theorem set1 {w : World} {b : Nat} {x y : Value} {T : TypeId} (h : w.heap[b]? = some (.cells #[y] T (0, 0))) : (w.setCell ⟨b, 0, none⟩ x).heap[b]? = some (.cells #[x] T (0, 0)) := by
  simp [World.setCell, Array.getElem?_modify, h]
theorem own_slice {w : World} {base : Nat} {e : TypeId} {s : Nat} {v : Value} {n : Nat} {xs : List Value} (h : w.ownsRow base e s v n xs) : ∃ a l c, v = .slice a l c := by
  obtain ⟨_, ⟨h, _⟩ | ⟨g, cap, cur, h, _⟩⟩ := h
  · exact ⟨_, _, _, h⟩
  · exact ⟨_, _, _, h⟩

set_option maxRecDepth 100000 in
set_option maxHeartbeats 1600000 in
theorem take_any (l : List Nat) (b off n cap : Nat) (W w : World) (B p : Nat) (acc : List Nat) (Hn : Hid (l.length = n)) (hn : n ≤ 1000) (hnc : n ≤ cap) (hb : b < W.heap.size) (hB : W.heap.size ≤ B) (Hx : Hid (∀ x ∈ l, x < 256))
    (Hc : Hid (∀ i, i < n → W.cell? ⟨b, off + i, none⟩ = some (.int .u8 (l.getD i 0)))) (hp : p < n) (hap : acc.length ≤ p) (hS : St W B (.slice (some ⟨b, off, none⟩) n cap) p acc w) :
    Calls Try.prog 20 #[.pointer (some ⟨B, 0, none⟩), .pointer (some ⟨B + 2, 0, none⟩), .pointer (some ⟨B + 1, 0, none⟩)] w
      (fun e w' => e = .returned (.int .i64 (rd (l.drop p)).2.2) ∧
        if (rd (l.drop p)).2.2 = 0 then St W B (.slice (some ⟨b, off, none⟩) n cap) (p + (rd (l.drop p)).2.1) (acc ++ [(rd (l.drop p)).1]) w' else St W B (.slice (some ⟨b, off, none⟩) n cap) p acc w') := by
  obtain ⟨i0, hi0, hz0, hz1, hz2⟩ := info_parts info64
  obtain ⟨h1, ⟨u, h2, hown⟩, h3, hg⟩ := hS
  obtain ⟨c1, f1⟩ := cells1 h1
  obtain ⟨c2, f2⟩ := cells1 h2
  obtain ⟨c3, f3⟩ := cells1 h3
  have hget : ∀ i, i < n - p → w.cell? ⟨b, off + p + i, none⟩ = some (.int .u8 ((l.drop p).getD i 0)) := fun i hi => by
    rw [Below.cell hg (p := ⟨b, off + p + i, none⟩) hb, Nat.add_assoc, Hc.out (p + i) (by omega)]
    simp [List.getD_eq_getElem?_getD, List.getElem?_drop]
  have HR := Lib.hid (read_some (l.drop p) b (off + p) (n - p) (cap - p) w (Lib.hid (by rw [List.length_drop, Hn.out])) (by omega) (Lib.hid fun x hx => Hx.out x (List.mem_of_mem_drop hx)) hget)
  clear hget
  have Hsz := Lib.hid (rd_size (l.drop p))
  have Hle : Hid ((l.drop p).length = n - p) := Lib.hid (by rw [List.length_drop, Hn.out])
  generalize rd (l.drop p) = q at HR Hsz ⊢
  obtain ⟨x, s, e⟩ := q
  have hu2 : B + 2 < w.heap.size := (Array.getElem?_eq_some_iff.1 h3).1
  have H1 := Lib.hid h1
  have H2 := Lib.hid h2
  have H3 := Lib.hid h3
  have Ho := Lib.hid hown
  have Hg := Lib.hid hg
  clear h1 h2 h3 hown hg
  go_enter Try.func20, Try.ntmps20
  go_wp2_with fail
  refine HR.out.mono ?_
  rintro _ w1 ⟨rfl, hgw⟩
  obtain ⟨k1, _⟩ := cells1 (hgw.block H1.out)
  obtain ⟨k2, g2⟩ := cells1 (hgw.block H2.out)
  obtain ⟨k3, g3⟩ := cells1 (hgw.block H3.out)
  have hs3 := hgw.size
  have Hgw := Lib.hid hgw
  clear hgw c1 f1 c2 f2 c3 f3 HR
  by_cases he : e = 0
  · subst he
    obtain ⟨hs1, hs2⟩ := Hsz.out rfl
    rw [Hle.out] at hs2
    clear Hsz
    have own := Lib.hid (ownsRow_grows (ownsRow_grows Ho.out Hgw.out) (Grows.alloc w1 (.cells #[.int .u64 x] 23)))
    have G1 := Lib.hid (Hgw.out.al (.cells #[.int .u64 x] 23))
    have hnew := heap_new w1 (.cells #[.int .u64 x] 23) _ rfl
    have HC : Hid (∀ j u, [Value.int .u64 x][j]? = some u → (w1.alloc (.cells #[.int .u64 x] 23)).cell? (Addr.add ⟨w1.heap.size, 0, none⟩ j) = some u) := Lib.hid fun j u h => by
      match j, h with
      | 0, h => cases h; show World.cell? _ ⟨w1.heap.size, 0, none⟩ = _; unfold World.cell?; rw [hnew]; rfl
      | j + 1, h => simp at h
    have Hgr : Hid (∀ kk, u.ownBlock = some kk → B + 3 ≤ kk) := Lib.hid fun kk hkk => by
      obtain ⟨_, ⟨rfl, _⟩ | ⟨g', cap', cur, rfl, hb', _⟩⟩ := Ho.out
      · cases hkk
      · cases hkk; exact hb'
    clear hnew
    go_wp2_with (at_builtin; refine wpList_append_own _ rfl _ _ 22 rfl (B + 3) 23 i0 (.int .u64 0) 1 8 Try.underlying22 hi0 hz0 hz1 hz2 rfl (by decide) u acc.length _ rfl own.out ⟨w1.heap.size, 0, none⟩ 1 1 [.int .u64 x] rfl rfl HC.out (fun u hu => by simp only [List.mem_cons, List.not_mem_nil, or_false] at hu; subst hu; rfl) (by unfold maxLen; omega) (by omega) (by simp only [World.size_alloc]; omega) ?_; intro v' w2 hown2 hgrow _; have Ho2 := Lib.hid hown2; have Hgg := Lib.hid hgrow; have G2 := Lib.hid (Below.grown (B := B + 3) (Below.mono G1.out (by omega)) hgrow (by simp only [World.size_alloc]; omega) Hgr.out); obtain ⟨m1, _⟩ := cells1 (T := 24) (w := w2) (b := B) (by rw [Below.block G2.out B (by omega)]; exact H1.out); obtain ⟨m2, g2⟩ := cells1 (T := 22) (w := w2) (b := B + 1) (by rw [Below.block G2.out (B + 1) (by omega)]; exact H2.out); obtain ⟨m3, g3⟩ := cells1 (T := 3) (w := w2) (b := B + 2) (by rw [Below.block G2.out (B + 2) (by omega)]; exact H3.out); clear hown2 hgrow; obtain ⟨va, vl, vc, rfl⟩ : ∃ a l c, v' = .slice a l c := own_slice Ho2.out)
    go_ret
    refine ⟨rfl, ?_⟩
    show St W B _ (p + s) (acc ++ [x]) _
    have hb1 := Below.block G2.out B (by omega)
    have hb2 := Below.block G2.out (B + 1) (by omega)
    have hb3 := Below.block G2.out (B + 2) (by omega)
    refine ⟨?_, ⟨.slice va vl vc, ?_, ?_⟩, ?_, ?_⟩
    · rw [Below.heap_setCell _ _ _ _ (by simp only; omega), Below.heap_setCell _ _ _ _ (by simp only; omega), hb1]; exact H1.out
    · rw [Below.heap_setCell _ _ _ _ (by simp only; omega)]; exact set1 (by rw [hb2]; exact H2.out)
    · rw [List.length_append, List.map_append]
      exact ownsRow_setCell_below (ownsRow_setCell_below Ho2.out (by simp only; omega) _) (by simp only; omega) _
    · rw [Int.natCast_add]; exact set1 (by rw [Below.heap_setCell _ _ _ _ (by simp only; omega), hb3]; exact H3.out)
    · have G3 : Below W.heap.size W w2 := Below.trans Hg.out (Below.mono G2.out (by omega))
      exact Below.setCell (Below.setCell G3 (by simp only; omega) _) (by simp only; omega) _
  · have bn : ((e : Int) == 0) = false := by rw [beq_eq_false_iff_ne]; omega
    go_wp2
    go_ret
    refine ⟨rfl, ?_⟩
    exact ⟨Hgw.out.block H1.out, ⟨u, Hgw.out.block H2.out, ownsRow_grows Ho.out Hgw.out⟩, Hgw.out.block H3.out, Hg.out.trans Hgw.out⟩

set_option maxRecDepth 100000 in
set_option maxHeartbeats 1600000 in
theorem row_some (l : List Nat) (b off n cap : Nat) (w : World) (Hn : Hid (l.length = n)) (hn : n ≤ 1000) (hnc : n ≤ cap) (hb : b < w.heap.size) (Hx : Hid (∀ x ∈ l, x < 256))
    (Hc : Hid (∀ i, i < n → w.cell? ⟨b, off + i, none⟩ = some (.int .u8 (l.getD i 0)))) :
    Calls Try.prog 9 #[.slice (some ⟨b, off, none⟩) n cap] w (RetRow (rows l) w) := by
  have hmf : ∀ (fn : Fn) (first cap : Array Value) (w : World), (Instr.makeFunc fn first cap).run Try.prog w = .ok (.func fn first cap) w := fun _ _ _ _ => rfl
  go_enter Try.func9, Try.ntmps9
  go_wp2
  have k0 : ((((w.alloc (.cells #[.slice (some ⟨b, off, none⟩) n cap] 24)).alloc (.cells #[.slice none 0 0] 22)).alloc (.cells #[.int .i64 0] 3))).heap[w.heap.size]? = some (.cells #[.slice (some ⟨b, off, none⟩) n cap] 24 (0, 0)) := by
    rw [Below.heap_alloc _ _ _ (by simp only [World.size_alloc]; omega), Below.heap_alloc _ _ _ (by simp only [World.size_alloc]; omega)]
    exact heap_new _ _ _ rfl
  have k1 : ((((w.alloc (.cells #[.slice (some ⟨b, off, none⟩) n cap] 24)).alloc (.cells #[.slice none 0 0] 22)).alloc (.cells #[.int .i64 0] 3))).heap[w.heap.size + 1]? = some (.cells #[.slice none 0 0] 22 (0, 0)) := by
    rw [Below.heap_alloc _ _ _ (by simp only [World.size_alloc]; omega)]
    exact heap_new _ _ _ (by simp only [World.size_alloc])
  have k2 : ((((w.alloc (.cells #[.slice (some ⟨b, off, none⟩) n cap] 24)).alloc (.cells #[.slice none 0 0] 22)).alloc (.cells #[.int .i64 0] 3))).heap[w.heap.size + 2]? = some (.cells #[.int .i64 0] 3 (0, 0)) := heap_new _ _ _ (by simp only [World.size_alloc])
  have S0 : Hid (St w w.heap.size (.slice (some ⟨b, off, none⟩) n cap) 0 [] _) := Lib.hid ⟨k0, ⟨.slice none 0 0, k1, rfl, .inl ⟨rfl, rfl⟩⟩, k2, (((Grows.refl w).al _).al _).al _⟩
  clear k0 k1 k2
  go_loopw [8] (fun _ wr => ∃ (p f : Nat) (acc : List Nat), p ≤ n ∧ acc.length ≤ p ∧ n - p ≤ f ∧ rowsFrom l f p acc = rows l ∧ St w w.heap.size (.slice (some ⟨b, off, none⟩) n cap) p acc wr)
    (fun _ wr => n - (intOf ((wr.cell? ⟨w.heap.size + 2, 0, none⟩).getD undef)).toNat)
  case atStart => exact ⟨0, l.length, [], Nat.zero_le _, Nat.le_refl _, by rw [Hn.out]; omega, rfl, S0.out⟩
  case round =>
    obtain ⟨p, f, acc, hpn, hap, hf, hr, hS⟩ := hrel
    clear S0
    have HS := Lib.hid hS
    obtain ⟨s1, ⟨u, s2, hown⟩, s3, hg⟩ := hS
    obtain ⟨c1, f1⟩ := cells1 s1
    obtain ⟨c2, f2⟩ := cells1 s2
    obtain ⟨c3, f3⟩ := cells1 s3
    have hms : n - (intOf ((wr.cell? ⟨w.heap.size + 2, 0, none⟩).getD undef)).toNat = n - p := by rw [c3]; simp [intOf]
    have hsz := (Array.getElem?_eq_some_iff.1 s3).1
    by_cases hlt : p < n
    · have HT : Hid (Calls Try.prog 20 #[.pointer (some ⟨w.heap.size, 0, none⟩), .pointer (some ⟨w.heap.size + 1 + 1, 0, none⟩), .pointer (some ⟨w.heap.size + 1, 0, none⟩)] wr
        (fun e w' => e = .returned (.int .i64 (rd (l.drop p)).2.2) ∧
          if (rd (l.drop p)).2.2 = 0 then St w w.heap.size (.slice (some ⟨b, off, none⟩) n cap) (p + (rd (l.drop p)).2.1) (acc ++ [(rd (l.drop p)).1]) w' else St w w.heap.size (.slice (some ⟨b, off, none⟩) n cap) p acc w')) :=
        Lib.hid (take_any l b off n cap w wr w.heap.size p acc Hn hn hnc hb (Nat.le_refl _) Hx Hc hlt hap HS.out)
      have hlt2 : p < l.length := by rw [Hn.out]; exact hlt
      have Hbad := Lib.hid (rowsFrom_bad (acc := acc) hlt2 (by rw [Hn.out]; exact hf))
      have Hok := Lib.hid (rowsFrom_ok (acc := acc) hlt2 (by rw [Hn.out]; exact hf))
      have Hsz := Lib.hid (rd_size (l.drop p))
      have Hle : Hid ((l.drop p).length = n - p) := Lib.hid (by rw [List.length_drop, Hn.out])
      rw [hr] at Hbad Hok
      generalize rd (l.drop p) = q at HT Hbad Hok Hsz
      obtain ⟨x, s, e⟩ := q
      simp only at Hbad Hok Hsz HT
      have Hms := Lib.hid hms
      clear s1 s2 s3 hown hg hr hlt2 c2 f1 f2 f3 hms HS
      have c3' : wr.cell? ⟨w.heap.size + 1 + 1, 0, none⟩ = some (.int .i64 p) := c3
      clear c3
      go_wp2_with fail
      refine HT.out.mono ?_
      rintro _ w1 ⟨rfl, hT⟩
      clear HT c1 c3' hsz
      by_cases he : e = 0
      · subst he
        obtain ⟨g, hg1, hg2⟩ := Hok.out rfl
        obtain ⟨hs1, hs2⟩ := Hsz.out rfl
        rw [Hle.out] at hs2
        rw [Hn.out] at hg1
        have hT' : St w w.heap.size (.slice (some ⟨b, off, none⟩) n cap) (p + s) (acc ++ [x]) w1 := hT
        have k3 := Lib.hid (cells1 hT'.2.2.1).1
        have HT' := Lib.hid hT'
        have Hg2 := Lib.hid hg2
        clear hT hT' Hok Hbad Hsz hg2
        go_wp2
        refine ⟨⟨p + s, g, acc ++ [x], by omega, by rw [List.length_append, List.length_singleton]; omega, hg1, Hg2.out.symm, HT'.out⟩, ?_⟩
        rw [Hms.out, k3.out]
        simp only [Option.getD_some, intOf]
        omega
      · have hT' : St w w.heap.size (.slice (some ⟨b, off, none⟩) n cap) p acc w1 := by simpa [he] using hT
        have bn : ((e : Int) == 0) = false := by rw [beq_eq_false_iff_ne]; omega
        have HB := Lib.hid (Hbad.out he)
        have k3 : w1.cell? ⟨w.heap.size + 1 + 1, 0, none⟩ = some (.int .i64 p) := (cells1 hT'.2.2.1).1
        have Hgg := Lib.hid hT'.2.2.2
        clear hT hT' Hok Hbad Hsz
        go_wp2
        go_region
        all_goals (
          refine (‹∀ (a : Act) (w : World), Code.wp _ _ _ a w → _›) _ _ ?_
          go_wp2
          refine bodyPost_ret (v := .tuple #[.slice none 0 0, .int .i64 p, .int .i64 e]) (by simp [results, Try.results9, go_sem]) rfl ⟨.slice none 0 0, ?_, ⟨?_, ?_⟩, Hgg.out.dr⟩
          · rw [HB.out]
          · rw [HB.out]; exact Nat.zero_le _
          · rw [HB.out]; exact .inl ⟨⟨_, _, rfl, fun _ => rfl⟩, rfl⟩)
    · rw [rowsFrom_done (by rw [Hn.out]; omega)] at hr
      have Hr := Lib.hid hr
      have Ho := Lib.hid hown
      have Hg := Lib.hid hg
      have c3' : wr.cell? ⟨w.heap.size + 1 + 1, 0, none⟩ = some (.int .i64 p) := c3
      clear hr hown hg s1 s2 s3 c3 HS hms
      go_wp2
      refine bodyPost_ret (v := .tuple #[u, .int .i64 0, .int .i64 0]) (by simp [results, Try.results9, go_sem]) rfl ⟨u, ?_, ?_, Hg.out⟩
      · rw [← Hr.out]; rfl
      · rw [← Hr.out]; exact (ownsRow_nums Ho.out (by omega) : NumsAt .u64 _ u acc)
end Go.Proofs.Ytfhdljobndamgaa
