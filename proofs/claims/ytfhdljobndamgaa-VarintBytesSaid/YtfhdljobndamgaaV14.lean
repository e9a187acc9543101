/-
  Layer 7: the law on the bytes of numbers.
-/
import Derived.Test.YtfhdljobndamgaaV16
namespace Go.Proofs.Ytfhdljobndamgaa
open Go.RowKit Go.Tab

set_option maxRecDepth 100000 in
set_option maxHeartbeats 4000000 in
theorem law_bytesA (l : List Nat) (a : Option Addr) (n cap : Nat) (z u : Int) (w : World) (hn : (n : Int) ≤ 50) (hnc : n ≤ cap) (hcap : cap ≤ 9223372036854775807) (Hn : Hid (l.length = n)) (hx : Hid (∀ x ∈ l, x < 18446744073709551616))
    (hp : Hid (NumsAt .u64 w (.slice a n cap) l))
    (hz1 : -9223372036854775808 ≤ z) (hz2 : z ≤ 9223372036854775807) (hu1 : 0 ≤ u) (hu2 : u ≤ 18446744073709551615) :
    Calls Try.prog 3 #[.slice a n cap, .int .i64 z, .int .u64 u] w (Ret (.bool true) w) := by
  have HZ := Lib.hid (And.intro hz1 hz2)
  have HU := Lib.hid (And.intro hu1 hu2)
  have hel := encs_len l hx.out
  rw [Hn.out] at hel
  have Hel := Lib.hid hel
  obtain ⟨i0, hi0, hi1, hi2, hi3⟩ := info_parts info8
  clear hz1 hz2 hu1 hu2 hel
  go_enter Try.func3, Try.ntmps3
  go_wp2
  go_loopw [7, 8] (fun o i wr => ∃ k : Nat, k ≤ n ∧ i = .int .i64 k ∧ wr.ownsRow w.heap.size 5 1 o (encs (l.take k)).length ((encs (l.take k)).map u8v) ∧ Grows w wr) (fun _ i _ => n - (intOf i).toNat)
  case atStart => exact ⟨0, Nat.zero_le _, rfl, by simp [encs]; exact World.ownsRow_nil _ _ _ _, Grows.refl _⟩
  case round =>
    obtain ⟨k, hk, rfl, hown, hg⟩ := hrel
    have Hown := Lib.hid hown
    clear hown
    by_cases hlt : k < n
    · obtain ⟨b, off, rfl, hb, e1⟩ := hp.out.at_ (by rw [Hn.out]; exact hlt)
      have Hs := Lib.hid (encs_succ l k (by rw [Hn.out]; exact hlt))
      have hxk : l.getD k 0 < 18446744073709551616 := hx.out _ (getD_mem l k (by rw [Hn.out]; exact hlt))
      generalize l.getD k 0 = x at e1 Hs hxk
      have Hxk := Lib.hid hxk
      have Hg := Lib.hid hg
      have E1 := Lib.hid e1
      have hsz := hg.size
      have d1 : wr.cell? ⟨b, off + k, none⟩ = some (.int .u64 x) := by rw [Below.cell hg (p := ⟨b, off + k, none⟩) hb]; exact e1
      clear hg hxk e1
      have Hlen := Lib.hid (enc_len10 Hxk.out)
      have Hpos := Lib.hid (enc_pos x)
      have HB := encs_take l (k + 1) hx.out
      rw [Hn.out] at HB
      rw [Hs.out, List.length_append] at HB
      have HB := Lib.hid HB
      go_wp2_with fail
      refine (rbytes_any x _ Hxk.out).mono ?_
      rintro e w1 ⟨v, rfl, hv, hg1⟩
      generalize hm : (enc x).length = m at hv Hlen Hpos HB
      have Hm := Lib.hid hm
      obtain ⟨g, cp, rfl⟩ : ∃ g cp, v = .slice (some ⟨g, 0, none⟩) m cp := by
        obtain ⟨_, ⟨_, h0⟩ | ⟨g, cp, cur, h, _⟩⟩ := hv
        · have := Hpos.out; omega
        · exact ⟨g, cp, h⟩
      have d2 : w1.cell? ⟨b, off + k, none⟩ = some (.int .u64 x) := by rw [Below.cell (Hg.out.trans hg1) (p := ⟨b, off + k, none⟩) hb]; exact E1.out
      have V1 := Lib.hid hv
      have G1 := Lib.hid (Hg.out.trans hg1)
      have own := Lib.hid (ownsRow_grows Hown.out hg1)
      have hs1 := hg1.size
      clear hv hg1 d1 hm Hg
      go_wp2_with fail
      refine (size_any x _ Hxk.out).mono ?_
      rw [Hm.out]
      rintro e w2 ⟨rfl, hg2⟩
      have V2 := Lib.hid (ownsRow_grows V1.out hg2)
      have G2 := Lib.hid (G1.out.trans hg2)
      have own2 := Lib.hid (ownsRow_grows own.out hg2)
      have hs2 := hg2.size
      have HC := Lib.hid (World.ownsRow.cells V2.out (g := g) rfl)
      have hl : ((enc x).map u8v).length = m * 1 := by rw [List.length_map, Hm.out, Nat.mul_one]
      have Hl := Lib.hid hl
      have Hgr : Hid (∀ kk, u7.ownBlock = some kk → w.heap.size ≤ kk) := Lib.hid fun kk hkk => by
        obtain ⟨_, ⟨rfl, _⟩ | ⟨g', cap', cur, rfl, hb', _⟩⟩ := own2.out
        · cases hkk
        · cases hkk; exact hb'
      clear hg2 d2 V1 G1 own hl Hown
      go_wp2_with (at_builtin; refine wpList_append_own _ rfl _ _ 24 rfl w.heap.size 5 i0 (.int .u8 0) 1 1 Try.underlying24 hi0 hi1 hi2 hi3 rfl (by decide) u7 _ _ rfl own2.out ⟨g, 0, none⟩ m cp _ rfl Hl.out HC.out (fun u hu => by obtain ⟨x, _, rfl⟩ := List.mem_map.1 hu; rfl) (by have := Hlen.out; have := HB.out; unfold maxLen; omega) (by have := Hlen.out; omega) (by omega) ?_; intro v' w3 hown2 hgrow _; have Ho2 := Lib.hid hown2; have Hg2 := Lib.hid hgrow; clear hown2 hgrow)
      refine ⟨⟨k + 1, hlt, by simp, ?_, Below.grown G2.out Hg2.out (by omega) Hgr.out⟩, by simp only [intOf]; omega⟩
      have := Ho2.out
      rw [Hs.out, List.length_append, List.map_append, Hm.out]
      exact this
    · have hkn : k = n := by omega
      subst hkn
      have Ho : Hid (wr.ownsRow w.heap.size 5 1 u7 (encs l).length ((encs l).map u8v)) := Lib.hid (by
        have := Hown.out
        rwa [List.take_of_length_le (by rw [Hn.out]; exact Nat.le_refl _)] at this)
      have N1 := Lib.hid (ownsRow_nums Ho.out (by have := Hel.out; omega))
      have Hg := Lib.hid hg
      clear hg Ho Hown
      go_wp2_with fail
      refine (bytes_row _ l _ _ (hp.out.grows Hg.out) (by rw [Hn.out]; omega) hx.out rfl (by have := Hel.out; omega)).mono ?_
      rintro e w1 ⟨v, rfl, hv, hg⟩
      have N2 := Lib.hid hv
      have N1' := Lib.hid (N1.out.grows hg)
      have G1 := Lib.hid (Hg.out.trans hg)
      clear hv hg N1 Hg
      go_wp2_with fail
      refine (row_encs _ l _ N2.out hx.out (by have := Hel.out; omega)).mono ?_
      rintro e w2 ⟨r, rfl, hr, hg⟩
      have N3 := Lib.hid hr
      have N2' := Lib.hid (N2.out.grows hg)
      have N1 := Lib.hid (N1'.out.grows hg)
      have G2 := Lib.hid (G1.out.trans hg)
      clear hr hg N1' N2 G1
      go_wp2_with fail
      refine (kn_any _).mono ?_
      rintro e w3 ⟨rfl, hg⟩
      have G3 := Lib.hid (G2.out.trans hg)
      have H3 := Lib.hid hg
      clear hg
      go_wp2_with fail
      refine (Same_yes _ _ _ _ (N2'.out.grows H3.out) (N1.out.grows H3.out)).mono ?_
      rintro e w4 ⟨rfl, hg⟩
      have G4 := Lib.hid (G3.out.trans hg)
      have H4 := Lib.hid (H3.out.trans hg)
      clear hg G3 H3
      go_wp2_with fail
      refine (same_yes _ _ _ _ (N3.out.grows H4.out) (hp.out.grows G4.out)).mono ?_
      rintro e w5 ⟨rfl, hg⟩
      have G5 := Lib.hid (G4.out.trans hg)
      clear hg G4 H4 N1 N2' N3
      go_wp2_with fail
      refine (zig_any z _ HZ.out.1 HZ.out.2).mono ?_
      rintro e w6 ⟨rfl, hg⟩
      have G6 := Lib.hid (G5.out.trans hg)
      clear hg G5
      go_wp2_with fail
      refine (rzig_any z _ HZ.out.1 HZ.out.2).mono ?_
      rintro e w7 ⟨rfl, hg⟩
      have G7 := Lib.hid (G6.out.trans hg)
      clear hg G6
      go_wp2_with fail
      refine (zag_any u _ HU.out.1 HU.out.2).mono ?_
      rintro e w8 ⟨rfl, hg⟩
      have G8 := Lib.hid (G7.out.trans hg)
      clear hg G7
      go_wp2_with fail
      refine (rzag_any u _ HU.out.1 HU.out.2).mono ?_
      rintro e w9 ⟨rfl, hg⟩
      have G9 := Lib.hid (G8.out.trans hg)
      clear hg G8
      go_wp2_with fail
      refine (zig_any z _ HZ.out.1 HZ.out.2).mono ?_
      rintro e wa ⟨rfl, hg⟩
      have Ga := Lib.hid (G9.out.trans hg)
      clear hg G9
      go_wp2_with fail
      refine (zag_any (zig z) _ (zig_range z HZ.out.1 HZ.out.2).1 (zig_range z HZ.out.1 HZ.out.2).2).mono ?_
      rw [zag_zig]
      rintro e wb ⟨rfl, hg⟩
      have Gb := Lib.hid (Ga.out.trans hg)
      clear hg Ga
      go_wp2_with fail
      refine (zag_any u _ HU.out.1 HU.out.2).mono ?_
      rintro e wc ⟨rfl, hg⟩
      have Gc := Lib.hid (Gb.out.trans hg)
      clear hg Gb
      go_wp2_with fail
      refine (zig_any (zag u) _ (zag_range u HU.out.1 HU.out.2).1 (zag_range u HU.out.1 HU.out.2).2).mono ?_
      rw [zig_zag u HU.out.1]
      rintro e wd ⟨rfl, hg⟩
      have Gd := Lib.hid (Gc.out.trans hg)
      clear hg Gc
      go_wp2
      go_ret
      exact ⟨rfl, Gd.out⟩

set_option maxRecDepth 100000 in
set_option maxHeartbeats 4000000 in
theorem law_bytesB (l : List Nat) (a : Option Addr) (n cap : Nat) (z u : Int) (w : World) (hn : ¬ (n : Int) ≤ 50) (hnc : n ≤ cap) (hcap : cap ≤ 9223372036854775807) (Hn : Hid (l.length = 50)) (hx : Hid (∀ x ∈ l, x < 18446744073709551616))
    (hp : Hid (NumsAt .u64 w (.slice a 50 cap) l))
    (hz1 : -9223372036854775808 ≤ z) (hz2 : z ≤ 9223372036854775807) (hu1 : 0 ≤ u) (hu2 : u ≤ 18446744073709551615) :
    Calls Try.prog 3 #[.slice a n cap, .int .i64 z, .int .u64 u] w (Ret (.bool true) w) := by
  have HZ := Lib.hid (And.intro hz1 hz2)
  have HU := Lib.hid (And.intro hu1 hu2)
  have hel := encs_len l hx.out
  rw [Hn.out] at hel
  have Hel := Lib.hid hel
  obtain ⟨i0, hi0, hi1, hi2, hi3⟩ := info_parts info8
  clear hz1 hz2 hu1 hu2 hel
  go_enter Try.func3, Try.ntmps3
  go_wp2
  go_loopw [7, 8] (fun o i wr => ∃ k : Nat, k ≤ 50 ∧ i = .int .i64 k ∧ wr.ownsRow w.heap.size 5 1 o (encs (l.take k)).length ((encs (l.take k)).map u8v) ∧ Grows w wr) (fun _ i _ => 50 - (intOf i).toNat)
  case atStart => exact ⟨0, Nat.zero_le _, rfl, by simp [encs]; exact World.ownsRow_nil _ _ _ _, Grows.refl _⟩
  case round =>
    obtain ⟨k, hk, rfl, hown, hg⟩ := hrel
    have Hown := Lib.hid hown
    clear hown
    by_cases hlt : k < 50
    · obtain ⟨b, off, rfl, hb, e1⟩ := hp.out.at_ (by rw [Hn.out]; exact hlt)
      have Hs := Lib.hid (encs_succ l k (by rw [Hn.out]; exact hlt))
      have hxk : l.getD k 0 < 18446744073709551616 := hx.out _ (getD_mem l k (by rw [Hn.out]; exact hlt))
      generalize l.getD k 0 = x at e1 Hs hxk
      have Hxk := Lib.hid hxk
      have Hg := Lib.hid hg
      have E1 := Lib.hid e1
      have hsz := hg.size
      have d1 : wr.cell? ⟨b, off + k, none⟩ = some (.int .u64 x) := by rw [Below.cell hg (p := ⟨b, off + k, none⟩) hb]; exact e1
      clear hg hxk e1
      have Hlen := Lib.hid (enc_len10 Hxk.out)
      have Hpos := Lib.hid (enc_pos x)
      have HB := encs_take l (k + 1) hx.out
      rw [Hn.out] at HB
      rw [Hs.out, List.length_append] at HB
      have HB := Lib.hid HB
      go_wp2_with fail
      refine (rbytes_any x _ Hxk.out).mono ?_
      rintro e w1 ⟨v, rfl, hv, hg1⟩
      generalize hm : (enc x).length = m at hv Hlen Hpos HB
      have Hm := Lib.hid hm
      obtain ⟨g, cp, rfl⟩ : ∃ g cp, v = .slice (some ⟨g, 0, none⟩) m cp := by
        obtain ⟨_, ⟨_, h0⟩ | ⟨g, cp, cur, h, _⟩⟩ := hv
        · have := Hpos.out; omega
        · exact ⟨g, cp, h⟩
      have d2 : w1.cell? ⟨b, off + k, none⟩ = some (.int .u64 x) := by rw [Below.cell (Hg.out.trans hg1) (p := ⟨b, off + k, none⟩) hb]; exact E1.out
      have V1 := Lib.hid hv
      have G1 := Lib.hid (Hg.out.trans hg1)
      have own := Lib.hid (ownsRow_grows Hown.out hg1)
      have hs1 := hg1.size
      clear hv hg1 d1 hm Hg
      go_wp2_with fail
      refine (size_any x _ Hxk.out).mono ?_
      rw [Hm.out]
      rintro e w2 ⟨rfl, hg2⟩
      have V2 := Lib.hid (ownsRow_grows V1.out hg2)
      have G2 := Lib.hid (G1.out.trans hg2)
      have own2 := Lib.hid (ownsRow_grows own.out hg2)
      have hs2 := hg2.size
      have HC := Lib.hid (World.ownsRow.cells V2.out (g := g) rfl)
      have hl : ((enc x).map u8v).length = m * 1 := by rw [List.length_map, Hm.out, Nat.mul_one]
      have Hl := Lib.hid hl
      have Hgr : Hid (∀ kk, u7.ownBlock = some kk → w.heap.size ≤ kk) := Lib.hid fun kk hkk => by
        obtain ⟨_, ⟨rfl, _⟩ | ⟨g', cap', cur, rfl, hb', _⟩⟩ := own2.out
        · cases hkk
        · cases hkk; exact hb'
      clear hg2 d2 V1 G1 own hl Hown
      go_wp2_with (at_builtin; refine wpList_append_own _ rfl _ _ 24 rfl w.heap.size 5 i0 (.int .u8 0) 1 1 Try.underlying24 hi0 hi1 hi2 hi3 rfl (by decide) u7 _ _ rfl own2.out ⟨g, 0, none⟩ m cp _ rfl Hl.out HC.out (fun u hu => by obtain ⟨x, _, rfl⟩ := List.mem_map.1 hu; rfl) (by have := Hlen.out; have := HB.out; unfold maxLen; omega) (by have := Hlen.out; omega) (by omega) ?_; intro v' w3 hown2 hgrow _; have Ho2 := Lib.hid hown2; have Hg2 := Lib.hid hgrow; clear hown2 hgrow)
      refine ⟨⟨k + 1, hlt, by simp, ?_, Below.grown G2.out Hg2.out (by omega) Hgr.out⟩, by simp only [intOf]; omega⟩
      have := Ho2.out
      rw [Hs.out, List.length_append, List.map_append, Hm.out]
      exact this
    · have hkn : k = 50 := by omega
      subst hkn
      have Ho : Hid (wr.ownsRow w.heap.size 5 1 u7 (encs l).length ((encs l).map u8v)) := Lib.hid (by
        have := Hown.out
        rwa [List.take_of_length_le (by rw [Hn.out]; exact Nat.le_refl _)] at this)
      have N1 := Lib.hid (ownsRow_nums Ho.out (by have := Hel.out; omega))
      have Hg := Lib.hid hg
      clear hg Ho Hown
      go_wp2_with fail
      refine (bytes_row _ l _ _ (hp.out.grows Hg.out) (by rw [Hn.out]; omega) hx.out rfl (by have := Hel.out; omega)).mono ?_
      rintro e w1 ⟨v, rfl, hv, hg⟩
      have N2 := Lib.hid hv
      have N1' := Lib.hid (N1.out.grows hg)
      have G1 := Lib.hid (Hg.out.trans hg)
      clear hv hg N1 Hg
      go_wp2_with fail
      refine (row_encs _ l _ N2.out hx.out (by have := Hel.out; omega)).mono ?_
      rintro e w2 ⟨r, rfl, hr, hg⟩
      have N3 := Lib.hid hr
      have N2' := Lib.hid (N2.out.grows hg)
      have N1 := Lib.hid (N1'.out.grows hg)
      have G2 := Lib.hid (G1.out.trans hg)
      clear hr hg N1' N2 G1
      go_wp2_with fail
      refine (kn_any _).mono ?_
      rintro e w3 ⟨rfl, hg⟩
      have G3 := Lib.hid (G2.out.trans hg)
      have H3 := Lib.hid hg
      clear hg
      go_wp2_with fail
      refine (Same_yes _ _ _ _ (N2'.out.grows H3.out) (N1.out.grows H3.out)).mono ?_
      rintro e w4 ⟨rfl, hg⟩
      have G4 := Lib.hid (G3.out.trans hg)
      have H4 := Lib.hid (H3.out.trans hg)
      clear hg G3 H3
      go_wp2_with fail
      refine (same_yes _ _ _ _ (N3.out.grows H4.out) (hp.out.grows G4.out)).mono ?_
      rintro e w5 ⟨rfl, hg⟩
      have G5 := Lib.hid (G4.out.trans hg)
      clear hg G4 H4 N1 N2' N3
      go_wp2_with fail
      refine (zig_any z _ HZ.out.1 HZ.out.2).mono ?_
      rintro e w6 ⟨rfl, hg⟩
      have G6 := Lib.hid (G5.out.trans hg)
      clear hg G5
      go_wp2_with fail
      refine (rzig_any z _ HZ.out.1 HZ.out.2).mono ?_
      rintro e w7 ⟨rfl, hg⟩
      have G7 := Lib.hid (G6.out.trans hg)
      clear hg G6
      go_wp2_with fail
      refine (zag_any u _ HU.out.1 HU.out.2).mono ?_
      rintro e w8 ⟨rfl, hg⟩
      have G8 := Lib.hid (G7.out.trans hg)
      clear hg G7
      go_wp2_with fail
      refine (rzag_any u _ HU.out.1 HU.out.2).mono ?_
      rintro e w9 ⟨rfl, hg⟩
      have G9 := Lib.hid (G8.out.trans hg)
      clear hg G8
      go_wp2_with fail
      refine (zig_any z _ HZ.out.1 HZ.out.2).mono ?_
      rintro e wa ⟨rfl, hg⟩
      have Ga := Lib.hid (G9.out.trans hg)
      clear hg G9
      go_wp2_with fail
      refine (zag_any (zig z) _ (zig_range z HZ.out.1 HZ.out.2).1 (zig_range z HZ.out.1 HZ.out.2).2).mono ?_
      rw [zag_zig]
      rintro e wb ⟨rfl, hg⟩
      have Gb := Lib.hid (Ga.out.trans hg)
      clear hg Ga
      go_wp2_with fail
      refine (zag_any u _ HU.out.1 HU.out.2).mono ?_
      rintro e wc ⟨rfl, hg⟩
      have Gc := Lib.hid (Gb.out.trans hg)
      clear hg Gb
      go_wp2_with fail
      refine (zig_any (zag u) _ (zag_range u HU.out.1 HU.out.2).1 (zag_range u HU.out.1 HU.out.2).2).mono ?_
      rw [zig_zag u HU.out.1]
      rintro e wd ⟨rfl, hg⟩
      have Gd := Lib.hid (Gc.out.trans hg)
      clear hg Gc
      go_wp2
      go_ret
      exact ⟨rfl, Gd.out⟩
end Go.Proofs.Ytfhdljobndamgaa
