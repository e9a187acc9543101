/-
  Layer 8: all fields of any bytes, as the document reads them.
-/
import Derived.Test.YtdiciboaehdckaaD13
namespace Go.Proofs.Ytdiciboaehdckaa
open Go.RowKit Go.Tab Go.WideShapes

def allFrom (l : List Nat) : Nat → Nat → List Fld → List Fld × Nat × Nat
  | 0, _, acc => (acc, 0, 0)
  | f + 1, p, acc => if l.length ≤ p then (acc, 0, 0) else if (rdF (l.drop p)).2.2 = 0 then allFrom l f (p + (rdF (l.drop p)).2.1) (acc ++ [(rdF (l.drop p)).1]) else ([], p, (rdF (l.drop p)).2.2)
/-- The fields, the place of the first error, the error. -/
def allF (l : List Nat) : List Fld × Nat × Nat := allFrom l l.length 0 []
theorem rdF_size (l : List Nat) (hx : ∀ x ∈ l, x < 256) (h : (rdF l).2.2 = 0) : 1 ≤ (rdF l).2.1 ∧ (rdF l).2.1 ≤ l.length := by
  rcases lk_cases l hx with ⟨e, he, hk⟩ | ⟨num, kind, n, head, size, hk, hG⟩
  · unfold rdF at h ⊢
    rw [hk] at h ⊢
    rw [if_pos (by simpa [bad6] using he)] at h
    exact absurd h (by simpa [bad6] using he)
  · unfold rdF at h ⊢
    rw [hk] at h ⊢
    rw [if_neg (by simp)] at h ⊢
    have := hG.h1
    have := hG.fit
    show 1 ≤ head + size ∧ head + size ≤ l.length
    omega
theorem allFrom_done {l : List Nat} {f p : Nat} {acc : List Fld} (h : l.length ≤ p) : allFrom l f p acc = (acc, 0, 0) := by
  cases f with
  | zero => rfl
  | succ f => unfold allFrom; rw [if_pos h]
theorem allFrom_ok {l : List Nat} {f p : Nat} {acc : List Fld} (h : p < l.length) (hf : l.length - p ≤ f) (hx : ∀ x ∈ l, x < 256) (he : (rdF (l.drop p)).2.2 = 0) :
    ∃ g, l.length - (p + (rdF (l.drop p)).2.1) ≤ g ∧ allFrom l f p acc = allFrom l g (p + (rdF (l.drop p)).2.1) (acc ++ [(rdF (l.drop p)).1]) := by
  obtain ⟨g, rfl⟩ : ∃ g, f = g + 1 := ⟨f - 1, by omega⟩
  have := rdF_size (l.drop p) (fun x h => hx x (List.mem_of_mem_drop h)) he
  refine ⟨g, by omega, ?_⟩
  rw [allFrom, if_neg (by omega), if_pos he]
theorem allFrom_bad {l : List Nat} {f p : Nat} {acc : List Fld} (h : p < l.length) (hf : l.length - p ≤ f) (he : ¬ (rdF (l.drop p)).2.2 = 0) : allFrom l f p acc = ([], p, (rdF (l.drop p)).2.2) := by
  obtain ⟨g, rfl⟩ : ∃ g, f = g + 1 := ⟨f - 1, by omega⟩
  rw [allFrom, if_neg (by omega), if_neg he]
theorem row_four {w : World} {b : Nat} {x y z u : Value} {T : TypeId} (h : w.heap[b]? = some (.cells #[x, y, z, u] T (0, 0))) (h1 : x.oneCell' = true) (h2 : y.oneCell' = true) (h3 : z.oneCell' = true) (h4 : u.oneCell' = true) : RowAt 4 w (.slice (some ⟨b, 0, none⟩) 1 1) 1 [x, y, z, u] := by
  refine ⟨rfl, ?_, .inr ⟨b, 0, 1, rfl, (Array.getElem?_eq_some_iff.1 h).1, fun j v hj => ?_⟩⟩
  · intro v hv
    simp only [List.mem_cons, List.not_mem_nil, or_false] at hv
    rcases hv with rfl | rfl | rfl | rfl <;> assumption
  · obtain ⟨c0, c1, c2, c3⟩ := cells4f h
    match j, hj with
    | 0, hj => cases hj; exact c0
    | 1, hj => cases hj; exact c1
    | 2, hj => cases hj; exact c2
    | 3, hj => cases hj; exact c3
    | j + 4, hj => simp at hj
/-- The call hands back fields, a place, an error. -/
def RetRAll (q : List Fld × Nat × Nat) (w : World) (e : Ending) (w' : World) : Prop := ∃ u, e = .returned (.tuple #[u, .int .i64 (q.2.1 : Int), .int .i64 (q.2.2 : Int)]) ∧ RFldsAt w' u q.1 ∧ Grows w w'

set_option maxRecDepth 100000 in
set_option maxHeartbeats 4000000 in
theorem rall_any (v : Value) (l : List Nat) (w : World) (hp : NumsAt .u8 w v l) (hx : ∀ x ∈ l, x < 256) (hl : l.length ≤ 1000) : Calls Try.prog 20 #[v] w (RetRAll (allF l) w) := by
  obtain ⟨i0, hi0, hz0, hz1, hz2⟩ := info_parts infoRF
  obtain ⟨a, c, rfl⟩ := hp.shape
  have HP := Lib.hid hp
  obtain ⟨n, hn⟩ : ∃ n, n = l.length := ⟨_, rfl⟩
  have HX := Lib.hid hx
  rw [← hn] at hl HP ⊢
  have HN := Lib.hid hn
  clear hp hx hn
  go_enter Try.func20, Try.ntmps20
  go_wp2
  go_loopw [5, 6] (fun u i wr => ∃ (p f : Nat) (acc : List Fld) (o : Value), o = u ∧ p ≤ n ∧ acc.length ≤ p ∧ n - p ≤ f ∧ i = .int .i64 p ∧ Hid (allFrom l f p acc = allF l) ∧ Hid (wr.ownsRow w.heap.size 45 4 o acc.length (rcells acc)) ∧ Hid (Grows w wr)) (fun _ i _ => n - (intOf i).toNat)
  case atStart => exact ⟨0, l.length, [], _, rfl, Nat.zero_le _, Nat.le_refl _, by rw [HN.out]; omega, rfl, Lib.hid rfl, Lib.hid (World.ownsRow_nil _ _ _ _), Lib.hid (Grows.refl _)⟩
  case round =>
    obtain ⟨p, f, acc, o, rfl, hpn, hap, hf, rfl, HR, HO, HG⟩ := hrel
    by_cases hlt : p < n
    · obtain ⟨ba, oa, rfl, hba, -⟩ := HP.out.at_ (i := p) (by rw [← HN.out]; exact hlt)
      have hpc : p < c ∧ n ≤ c := by
        obtain ⟨_, ⟨_, h0⟩ | ⟨_, _, c', hv, _, hc', _⟩⟩ := HP.out
        · have := HN.out; rw [h0] at this; simp at this; omega
        · injection hv with _ _ hv; have := HN.out; omega
      obtain ⟨hpc, hnc⟩ := hpc
      have hxd : ∀ x ∈ l.drop p, x < 256 := fun x h => HX.out x (List.mem_of_mem_drop h)
      have HRD := Lib.hid (rread_field _ _ wr ((nums_drop HP.out HN.out (Nat.le_of_lt hlt)).grows HG.out) hxd)
      have hlt2 : p < l.length := by rw [← HN.out]; exact hlt
      have Hbad := Lib.hid (allFrom_bad (acc := acc) hlt2 (by rw [← HN.out]; exact hf))
      have Hok := Lib.hid (allFrom_ok (acc := acc) hlt2 (by rw [← HN.out]; exact hf) HX.out)
      have Hsz := Lib.hid (rdF_size (l.drop p) hxd)
      have Hle : Hid ((l.drop p).length = n - p) := Lib.hid (by rw [List.length_drop, HN.out])
      rw [HR.out] at Hbad Hok
      generalize rdF (l.drop p) = q at HRD Hbad Hok Hsz
      obtain ⟨fl, s, e⟩ := q
      obtain ⟨num, kind, fn, bs⟩ := fl
      clear HR hlt2 hxd
      simp only at Hbad Hok Hsz
      unfold rrV at HRD
      simp only at HRD
      by_cases he : e = 0
      · subst he
        obtain ⟨g, hg1, hg2⟩ := Hok.out rfl
        obtain ⟨hs1, hs2⟩ := Hsz.out rfl
        rw [Hle.out] at hs2
        rw [← HN.out] at hg1
        have Hg2 := Lib.hid hg2
        clear Hbad Hok Hsz hg2
        go_wp2_with fail
        refine HRD.out.mono ?_
        rintro _ w1 ⟨rfl, hgw⟩
        have HO1 := Lib.hid (ownsRow_later (ownsRow_later (ownsRow_later HO.out hgw) (Grows.alloc w1 (.cells #[.int .i64 num, .int .i64 kind, .int .u64 (fn : Int), .string (strN bs)] 45))) (Grows.alloc _ (.cells #[.int .i64 num, .int .i64 kind, .int .u64 (fn : Int), .string (strN bs)] 45)))
        have HG1 := Lib.hid (((HG.out.trans hgw).al (.cells #[.int .i64 num, .int .i64 kind, .int .u64 (fn : Int), .string (strN bs)] 45)).al (.cells #[.int .i64 num, .int .i64 kind, .int .u64 (fn : Int), .string (strN bs)] 45))
        clear hgw HG HO
        go_wp2_with (at_builtin; go_loud (refine append_row2 rfl _ _ 30 rfl w.heap.size 45 i0 _ 4 40 Try.underlying30 hi0 hz0 hz1 hz2 rfl (by decide) o acc.length _ rfl HO1.out 1 _ _ rfl (row_four (heap_new _ _ _ (by simp only [World.size_alloc])) rfl rfl rfl rfl) (by unfold maxLen; omega) (by omega) HG1.out.size ?_; intro o2 w2 hown hgr; have HO2 := Lib.hid hown; have HG2 := Lib.hid (grown_all HO1.out HG1.out hgr); clear hown hgr HO1 HG1))
        exact ⟨⟨p + s, g, acc ++ [⟨num, kind, fn, bs⟩], _, rfl, by omega, by rw [List.length_append, List.length_singleton]; omega, hg1, by simp, Lib.hid Hg2.out.symm, Lib.hid (by rw [rcells_snoc, List.length_append]; exact HO2.out), HG2⟩, by simp only [intOf]; omega⟩
      · have HB := Lib.hid (Hbad.out he)
        have bn : ((e : Int) != 0) = true := by simpa using he
        clear Hok Hsz Hbad he
        go_wp2_with fail
        refine HRD.out.mono ?_
        rintro _ w1 ⟨rfl, hgw⟩
        have G1 := Lib.hid ((HG.out.trans hgw).al (.cells #[.int .i64 num, .int .i64 kind, .int .u64 (fn : Int), .string (strN bs)] 45))
        clear hgw
        go_wp2
        rw [HB.out]
        exact bodyPost_ret (v := .tuple #[.slice none 0 0, .int .i64 (p : Int), .int .i64 (e : Int)]) (by simp [results, Try.results20, go_sem]) rfl ⟨.slice none 0 0, rfl, .inl ⟨⟨_, _, rfl, fun _ => rfl⟩, rfl⟩, G1.out⟩
    · have HD := Lib.hid (allFrom_done (l := l) (f := f) (p := p) (acc := acc) (by rw [← HN.out]; omega))
      go_wp2
      rw [← HR.out, HD.out]
      exact bodyPost_ret (v := .tuple #[o, .int .i64 0, .int .i64 0]) (by simp [results, Try.results20, go_sem]) rfl ⟨o, rfl, own_rflds HO.out rfl, HG.out⟩
end Go.Proofs.Ytdiciboaehdckaa
