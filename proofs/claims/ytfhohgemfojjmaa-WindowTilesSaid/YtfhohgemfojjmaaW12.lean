/-
  Layer 20: the document's tile that has a point: the walk; the same tiles.
-/
import Derived.Test.YtfhohgemfojjmaaW11
namespace Go.Proofs.Ytfhohgemfojjmaa
open Go.RowKit Go.Tab Go.WideShapes

set_option maxHeartbeats 4000000 in
theorem rof_any (z px py : Int) (w : World) : Calls Try.prog 21 #[.int .i64 z, pt px py] w (Ret (.tuple #[tl (ofT z px py).1 (ofT z px py).2.1 (ofT z px py).2.2, .bool (hasB z px py)]) w) := by
  have HA := Lib.hid (rall_any z)
  have HLE := tilesL_le z
  have HH := Lib.hid (fun k => of_hit' (z := z) (px := px) (py := py) (k := k))
  have HMS := Lib.hid (of_miss' (z := z) (px := px) (py := py))
  have HP : Hid (∀ x : Tl, placeB px py x = meetB (winBox x.1 x.2.1 x.2.2 0) ⟨px, py, px, py⟩) := Lib.hid fun _ => rfl
  generalize placeB px py = p at HP HH HMS
  generalize ofT z px py = T at HH HMS ⊢
  generalize hasB z px py = B at HH HMS ⊢
  generalize tilesL z = L at HA HLE HH HMS
  have BX : Hid (∀ w', Grows ((w.alloc (.cells #[.int .i64 px, .int .i64 py] 30)).alloc (.cells #[.int .i64 0, .int .i64 0, .int .i64 0] 35)) w' →
      w'.heap[w.heap.size]? = some (.cells #[.int .i64 px, .int .i64 py] 30 (0, 0)) ∧ w'.heap[w.heap.size + 1]? = some (.cells #[.int .i64 0, .int .i64 0, .int .i64 0] 35 (0, 0)) ∧ Grows w w') :=
    Lib.hid fun w1 hg => ⟨hg.block ((Grows.alloc _ _).block (heap_new _ _ _ rfl)), hg.block (heap_new _ _ _ (by simp only [World.size_alloc])), (((Grows.refl w).al _).al _).trans hg⟩
  go_enter Try.func21, Try.ntmps21
  go_wp2_with fail
  refine (HA.out _).mono ?_
  rintro _ w2 ⟨v, rfl, hown, hg⟩
  have HT := Lib.hid (own_tls hown rfl (by omega))
  have G2 := Lib.hid hg
  clear hg hown
  obtain ⟨a, c, rfl, hnc, _⟩ := HT.out.shape
  obtain ⟨n, hn⟩ : ∃ n, n = L.length := ⟨_, rfl⟩
  rw [← hn] at HLE hnc HT HH HMS ⊢
  have HN := Lib.hid hn
  clear hn
  go_wp2
  go_loopw [7] (fun i wr => ∃ k : Nat, i = .int .i64 ((k : Int) - 1) ∧ k ≤ n ∧ (∀ j, k ≤ j → j < n → p (L.getD j (0, 0, 0)) = false) ∧ Grows w2 wr) (fun i _ => (intOf i + 1).toNat)
  case atStart => exact ⟨n, rfl, Nat.le_refl _, fun j h1 h2 => by omega, Grows.refl _⟩
  case round =>
    obtain ⟨k, rfl, hk, hno, hg⟩ := hrel
    have HNO := Lib.hid hno
    have G := Lib.hid hg
    clear hno hg
    by_cases hlt : 0 < k
    · obtain ⟨q, rfl⟩ : ∃ q, k = q + 1 := ⟨k - 1, by omega⟩
      have hqe : ((q + 1 : Nat) : Int) - 1 = (q : Int) := by omega
      rw [hqe]
      clear hqe
      have hqn : q < n := by omega
      obtain ⟨ba, oa, rfl, hba, -, -, -⟩ := HT.out.at_ (i := q) (by rw [← HN.out]; exact hqn)
      have CK := Lib.hid (fun w' (hg : Grows w2 w') => (HT.out.grows hg).at_cell (i := q) (by rw [← HN.out]; exact hqn))
      have HPk := Lib.hid (HP.out (L.getD q (0, 0, 0)))
      have HHk := Lib.hid (HH.out q hqn)
      have HNk := Lib.hid (fun (h : p (L.getD q (0, 0, 0)) = false) j (h1 : q ≤ j) (h2 : j < n) => if e : j = q then e ▸ h else HNO.out j (by omega) h2)
      have HNO' := Lib.hid (fun j (h1 : q < j) (h2 : j < n) => HNO.out j h1 h2)
      generalize L.getD q (0, 0, 0) = t at CK HPk HHk HNk
      obtain ⟨tz, tx, ty⟩ := t
      obtain ⟨c1, c2, c3⟩ := CK.out wr G.out
      simp only at c1 c2 c3 HPk HHk HNk
      have HC := Lib.hid (rwindow_any tz tx ty 0)
      have HME := Lib.hid (fun w => rmeet_any (winBox tz tx ty 0) ⟨px, py, px, py⟩ w)
      rw [← HPk.out] at HME
      clear HPk
      generalize winBox tz tx ty 0 = ub at HC HME
      generalize winB tz tx ty 0 = ok at HC
      generalize p (tz, tx, ty) = pt' at HME HHk HNk
      obtain ⟨ulx, uly, uhx, uhy⟩ := ub
      go_wp2_with fail
      refine (HC.out _).mono ?_
      rintro _ w3 ⟨rfl, hg⟩
      have G3 := Lib.hid (G.out.trans hg)
      have G4 := Lib.hid (G3.out.al (.cells #[.int .i64 ulx, .int .i64 uly, .int .i64 uhx, .int .i64 uhy] 32))
      obtain ⟨hb, -, -⟩ := BX.out _ (G2.out.trans G4.out)
      obtain ⟨p1, p2, _, _⟩ := cells2 hb
      clear hg c1 c2 c3 hb
      go_wp2_with fail
      refine (HME.out _).mono ?_
      rintro _ w5 ⟨rfl, hg⟩
      have G5 := Lib.hid (G4.out.trans hg)
      clear hg p1 p2
      cases pt' with
      | false =>
        go_wp2
        exact ⟨⟨q, by simp, by omega, HNk.out trivial, G5.out⟩, by simp only [intOf]; omega⟩
      | true =>
        obtain ⟨rfl, hT⟩ := HHk.out rfl (fun j h1 h2 => HNO'.out j h1 h2)
        subst hT
        obtain ⟨c1, c2, c3⟩ := CK.out _ G5.out
        obtain ⟨-, hc, g⟩ := BX.out _ (G2.out.trans G5.out)
        obtain ⟨z0, z1, z2⟩ := cells3 hc
        have f0 := froz hc 0
        have f1 := froz hc 1
        have f2 := froz hc 2
        have GG := Lib.hid g
        clear hc g
        go_wp2
        exact bodyPost_ret (v := .tuple #[tl tz tx ty, .bool true]) (by simp [results, Try.results21, go_sem, z0, z1, z2]) rfl ⟨rfl, ((GG.out.st (by simp) _).st (by simp) _).st (by simp) _⟩
    · obtain rfl : k = 0 := by omega
      obtain ⟨rfl, hT⟩ := HMS.out (fun j h => HNO.out j (Nat.zero_le _) h)
      subst hT
      obtain ⟨-, hc, g⟩ := BX.out _ (G2.out.trans G.out)
      obtain ⟨z0, z1, z2⟩ := cells3 hc
      have f0 := froz hc 0
      have f1 := froz hc 1
      have f2 := froz hc 2
      have GG := Lib.hid g
      clear hc g
      go_wp2
      exact bodyPost_ret (v := .tuple #[tl 0 0 0, .bool false]) (by simp [results, Try.results21, go_sem, z0, z1, z2]) rfl ⟨rfl, ((GG.out.st (by simp) _).st (by simp) _).st (by simp) _⟩
end Go.Proofs.Ytfhohgemfojjmaa
