/-
  Layer 7: all numbers of bytes: the document's reckoning.
-/
import Derived.Test.YtfhdljobndamgaaV6
import Derived.Test.YtfhdljobndamgaaV3
import Derived.OwnWalk
namespace Go.Proofs.Ytfhdljobndamgaa
open Go.RowKit Go.Tab

/-- The numbers from a place on, behind those that are there; or the place of the first that has an error, and the error. -/
def rowsFrom (l : List Nat) : Nat → Nat → List Nat → List Nat × Nat × Nat
  | 0, _, acc => (acc, 0, 0)
  | f + 1, p, acc => if l.length ≤ p then (acc, 0, 0) else
      if (rd (l.drop p)).2.2 = 0 then rowsFrom l f (p + (rd (l.drop p)).2.1) (acc ++ [(rd (l.drop p)).1]) else ([], p, (rd (l.drop p)).2.2)
def rows (l : List Nat) : List Nat × Nat × Nat := rowsFrom l l.length 0 []

theorem rd_size (l : List Nat) (h : (rd l).2.2 = 0) : 1 ≤ (rd l).2.1 ∧ (rd l).2.1 ≤ l.length := by
  have := lead_le l
  by_cases h1 : 10 ≤ lead l
  · rw [rd_range h1] at h; cases h
  by_cases h2 : lead l = l.length
  · rw [rd_end h1 h2] at h; cases h
  by_cases h3 : lead l = 9 ∧ 1 < l.getD 9 0
  · rw [rd_nine h1 h2 h3] at h; cases h
  by_cases h4 : 0 < lead l ∧ l.getD (lead l) 0 = 0
  · rw [rd_zero h1 h2 h3 h4] at h; cases h
  rw [rd_ok h1 h2 h3 h4]
  simp only
  omega

theorem rowsFrom_done {l : List Nat} {f p : Nat} {acc : List Nat} (h : l.length ≤ p) : rowsFrom l f p acc = (acc, 0, 0) := by
  cases f with
  | zero => rfl
  | succ f => unfold rowsFrom; rw [if_pos h]
theorem rowsFrom_ok {l : List Nat} {f p : Nat} {acc : List Nat} (h : p < l.length) (hf : l.length - p ≤ f) (he : (rd (l.drop p)).2.2 = 0) :
    ∃ g, l.length - (p + (rd (l.drop p)).2.1) ≤ g ∧ rowsFrom l f p acc = rowsFrom l g (p + (rd (l.drop p)).2.1) (acc ++ [(rd (l.drop p)).1]) := by
  cases f with
  | zero => omega
  | succ f =>
    refine ⟨f, by have := rd_size _ he; omega, ?_⟩
    rw [rowsFrom, if_neg (by omega), if_pos he]
theorem rowsFrom_bad {l : List Nat} {f p : Nat} {acc : List Nat} (h : p < l.length) (hf : l.length - p ≤ f) (he : ¬ (rd (l.drop p)).2.2 = 0) : rowsFrom l f p acc = ([], p, (rd (l.drop p)).2.2) := by
  cases f with
  | zero => omega
  | succ f => rw [rowsFrom, if_neg (by omega), if_neg he]

theorem ownsRow_grows {w w' : World} {base : Nat} {T : TypeId} {s : Nat} {v : Value} {n : Nat} {xs : List Value} (h : w.ownsRow base T s v n xs) (hg : Grows w w') : w'.ownsRow base T s v n xs := by
  obtain ⟨h0, h1 | ⟨g, cap, cur, hv, hb, hh, rest⟩⟩ := h
  · exact ⟨h0, .inl h1⟩
  · exact ⟨h0, .inr ⟨g, cap, cur, hv, hb, hg.block hh, rest⟩⟩

theorem info64 : (Try.prog.info? 23).map (fun i => (i.zero, i.size, i.bytes)) = some (some (.int .u64 0), 1, 8) := by kernel_rfl

/-- What is handed back: the numbers, a place, an error. -/
def RetRow (q : List Nat × Nat × Nat) (w : World) (e : Ending) (w' : World) : Prop :=
  ∃ v, e = .returned (.tuple #[v, .int .i64 q.2.1, .int .i64 q.2.2]) ∧ NumsAt .u64 w' v q.1 ∧ Grows w w'

set_option maxRecDepth 100000 in
set_option maxHeartbeats 1600000 in
theorem rrow_some (l : List Nat) (b off n cap : Nat) (w : World) (Hn : Hid (l.length = n)) (hn : n ≤ 1000) (hnc : n ≤ cap) (hb : b < w.heap.size) (Hx : Hid (∀ x ∈ l, x < 256))
    (Hc : Hid (∀ i, i < n → w.cell? ⟨b, off + i, none⟩ = some (.int .u8 (l.getD i 0)))) :
    Calls Try.prog 19 #[.slice (some ⟨b, off, none⟩) n cap] w (RetRow (rows l) w) := by
  obtain ⟨i0, hi0, hz0, hz1, hz2⟩ := info_parts info64
  go_enter Try.func19, Try.ntmps19
  go_wp2
  go_loopw [5, 6] (fun u i wr => ∃ (p f : Nat) (acc : List Nat), p ≤ n ∧ acc.length ≤ p ∧ n - p ≤ f ∧ i = .int .i64 p ∧ rowsFrom l f p acc = rows l ∧ wr.ownsRow w.heap.size 23 1 u acc.length (acc.map fun x : Nat => .int .u64 (x : Int)) ∧ Grows w wr)
    (fun _ i _ => n - (intOf i).toNat)
  case atStart => exact ⟨0, l.length, [], Nat.zero_le _, Nat.le_refl _, by rw [Hn.out]; omega, rfl, rfl, ⟨rfl, .inl ⟨rfl, rfl⟩⟩, Grows.refl _⟩
  case round =>
    obtain ⟨p, f, acc, hpn, hap, hf, rfl, hr, hown, hg⟩ := hrel
    by_cases hlt : p < n
    · have Hr := Lib.hid hr
      have Ho := Lib.hid hown
      have Hg := Lib.hid hg
      have hsz := hg.size
      clear hr hown hg
      have hget : ∀ i, i < n - p → wr.cell? ⟨b, off + p + i, none⟩ = some (.int .u8 ((l.drop p).getD i 0)) := fun i hi => by
        rw [Below.cell Hg.out (p := ⟨b, off + p + i, none⟩) hb, Nat.add_assoc, Hc.out (p + i) (by omega)]
        simp [List.getD_eq_getElem?_getD, List.getElem?_drop]
      have HR := Lib.hid (rread_some (l.drop p) b (off + p) (n - p) (cap - p) wr (Lib.hid (by rw [List.length_drop, Hn.out])) (by omega) (Lib.hid fun x hx => Hx.out x (List.mem_of_mem_drop hx)) hget)
      clear hget
      have hlt2 : p < l.length := by rw [Hn.out]; exact hlt
      have Hbad := Lib.hid (rowsFrom_bad (acc := acc) hlt2 (by rw [Hn.out]; exact hf))
      have Hok := Lib.hid (rowsFrom_ok (acc := acc) hlt2 (by rw [Hn.out]; exact hf))
      have Hsz := Lib.hid (rd_size (l.drop p))
      have Hle : Hid ((l.drop p).length = n - p) := Lib.hid (by rw [List.length_drop, Hn.out])
      rw [Hr.out] at Hbad Hok
      generalize rd (l.drop p) = q at HR Hbad Hok Hsz
      obtain ⟨x, s, e⟩ := q
      clear Hr hlt2
      simp only at Hbad Hok Hsz
      by_cases he : e = 0
      · subst he
        obtain ⟨g, hg1, hg2⟩ := Hok.out rfl
        obtain ⟨hs1, hs2⟩ := Hsz.out rfl
        rw [Hle.out] at hs2
        rw [Hn.out] at hg1
        have Hg2 := Lib.hid hg2
        clear Hbad Hok Hsz hg2
        go_wp2_with fail
        refine HR.out.mono ?_
        rintro _ w1 ⟨rfl, hgw⟩
        have own := Lib.hid (ownsRow_grows (ownsRow_grows Ho.out hgw) (Grows.alloc w1 (.cells #[.int .u64 x] 23)))
        have G1 := Lib.hid ((Hg.out.trans hgw).al (.cells #[.int .u64 x] 23))
        have hs3 := hgw.size
        have hnew := heap_new w1 (.cells #[.int .u64 x] 23) _ rfl
        have HC : Hid (∀ j u, [Value.int .u64 x][j]? = some u → (w1.alloc (.cells #[.int .u64 x] 23)).cell? (Addr.add ⟨w1.heap.size, 0, none⟩ j) = some u) := Lib.hid fun j u h => by
          match j, h with
          | 0, h => cases h; show World.cell? _ ⟨w1.heap.size, 0, none⟩ = _; unfold World.cell?; rw [hnew]; rfl
          | j + 1, h => simp at h
        have Own0 := Lib.hid own.out
        have Hgr : Hid (∀ kk, u5.ownBlock = some kk → w.heap.size ≤ kk) := Lib.hid fun kk hkk => by
          obtain ⟨_, ⟨rfl, _⟩ | ⟨g', cap', cur, rfl, hb', _⟩⟩ := Ho.out
          · cases hkk
          · cases hkk; exact hb'
        clear hgw Hg HR hnew own Ho
        go_wp2_with (at_builtin; refine wpList_append_own _ rfl _ _ 22 rfl w.heap.size 23 i0 (.int .u64 0) 1 8 Try.underlying22 hi0 hz0 hz1 hz2 rfl (by decide) u5 acc.length _ rfl Own0.out ⟨w1.heap.size, 0, none⟩ 1 1 [.int .u64 x] rfl rfl HC.out (fun u hu => by simp only [List.mem_cons, List.not_mem_nil, or_false] at hu; subst hu; rfl) (by unfold maxLen; omega) (by omega) (by simp only [World.size_alloc]; omega) ?_; intro v' w2 hown2 hgrow _; have Ho2 := Lib.hid hown2; have Hgg := Lib.hid hgrow; clear hown2 hgrow)
        refine ⟨⟨p + s, g, acc ++ [x], by omega, by rw [List.length_append, List.length_singleton]; omega, hg1, by simp, Hg2.out.symm, by rw [List.map_append, List.length_append]; exact Ho2.out, Below.grown G1.out Hgg.out (by simp only [World.size_alloc]; omega) Hgr.out⟩, by simp only [intOf]; omega⟩
      · have Hb := Hbad.out he
        clear Hok Hsz Hbad
        have bn : ((e : Int) == 0) = false := by rw [beq_eq_false_iff_ne]; omega
        go_wp2_with fail
        refine HR.out.mono ?_
        rintro _ w1 ⟨rfl, hgw⟩
        have G1 := Lib.hid (Hg.out.trans hgw)
        clear hgw Ho Hg HR
        have HB := Lib.hid Hb
        clear Hb
        go_wp2
        refine bodyPost_ret (v := .tuple #[.slice none 0 0, .int .i64 p, .int .i64 e]) (by simp [results, Try.results19, go_sem]) rfl ⟨.slice none 0 0, ?_, ⟨?_, ?_⟩, G1.out⟩
        · rw [HB.out]
        · rw [HB.out]; exact Nat.zero_le _
        · rw [HB.out]; exact .inl ⟨⟨_, _, rfl, fun _ => rfl⟩, rfl⟩
    · rw [rowsFrom_done (by rw [Hn.out]; omega)] at hr
      have Hr := Lib.hid hr
      have Ho := Lib.hid hown
      have Hg := Lib.hid hg
      clear hr hown hg
      go_wp2
      refine bodyPost_ret (v := .tuple #[u5, .int .i64 0, .int .i64 0]) (by simp [results, Try.results19, go_sem]) rfl ⟨u5, ?_, ?_, Hg.out⟩
      · rw [← Hr.out]; rfl
      · rw [← Hr.out]; exact (ownsRow_nums Ho.out (by omega) : NumsAt .u64 _ u5 acc)
end Go.Proofs.Ytfhdljobndamgaa
