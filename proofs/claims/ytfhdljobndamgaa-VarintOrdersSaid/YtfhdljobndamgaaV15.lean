/-
  Layer 7: the law on orders.
-/
import Derived.Test.YtfhdljobndamgaaV16
namespace Go.Proofs.Ytfhdljobndamgaa
open Go.RowKit Go.Tab

set_option maxRecDepth 100000 in
set_option maxHeartbeats 4000000 in
theorem law_ordersAA (la lb : List Nat) (a b : Option Addr) (na ca nb cb x y : Nat) (cut : Int) (w : World) (hna : (na : Int) ≤ 30) (hnb : (nb : Int) ≤ 30) (hac : na ≤ ca) (hbc : nb ≤ cb) (hca : ca ≤ 9223372036854775807) (hcb : cb ≤ 9223372036854775807)
    (Hna : Hid (la.length = na)) (Hnb : Hid (lb.length = nb)) (hxa : Hid (∀ x ∈ la, x < 18446744073709551616)) (hxb : Hid (∀ x ∈ lb, x < 18446744073709551616))
    (hpa : Hid (NumsAt .u64 w (.slice a na ca) la)) (hpb : Hid (NumsAt .u64 w (.slice b nb cb) lb)) (hx : x < 18446744073709551616) (hy : y < 18446744073709551616) :
    Calls Try.prog 5 #[.slice a na ca, .slice b nb cb, .int .u64 x, .int .u64 y, .int .i64 cut] w (Ret (.bool true) w) := by
  obtain ⟨i0, hi0, hi1, hi2, hi3⟩ := info_parts info8
  obtain ⟨j0, hj0, hj1, hj2, hj3⟩ := info_parts info64
  have La : Hid (la.length ≤ 30) := Lib.hid (by rw [Hna.out]; omega)
  have Lb : Hid (lb.length ≤ 30) := Lib.hid (by rw [Hnb.out]; omega)
  obtain ⟨lo, hlo⟩ : ∃ lo, lo = min x y := ⟨_, rfl⟩
  obtain ⟨hi, hhi⟩ : ∃ hi, hi = max x y := ⟨_, rfl⟩
  have hmin : (if y < x then (y : Int) else x) = (lo : Int) := by omega
  have hmax : (if x < y then (y : Int) else x) = (hi : Int) := by omega
  have Hlo : Hid (lo < 18446744073709551616) := Lib.hid (by omega)
  have Hhi : Hid (hi < 18446744073709551616) := Lib.hid (by omega)
  have SZ : Hid ((enc lo).length ≤ (enc hi).length) := Lib.hid (enc_mono _ _ (by omega))
  have HX := Lib.hid hx
  have HY := Lib.hid hy
  clear hx hy hlo hhi
  go_enter Try.func5, Try.ntmps5
  go_wp2_with fail
  go_quiet (fail)
  have G0 : Hid (Grows w (w.drewN nq)) := Lib.hid ((Grows.refl w).trans ⟨rfl, rfl, rfl, Nat.le_refl _, fun _ _ => rfl⟩)
  generalize w.drewN nq = wq at G0 ⊢
  go_wp2_with fail
  refine (bytes_nums _ la _ (hpa.out.grows G0.out) (by have := La.out; omega) hxa.out).mono ?_
  rintro _ w1 ⟨vx, rfl, hv, hg⟩
  have X1 := Lib.hid hv
  have G1 := Lib.hid (G0.out.trans hg)
  clear hv hg G0
  go_wp2_with fail
  refine (bytes_nums _ lb _ (hpb.out.grows G1.out) (by have := Lb.out; omega) hxb.out).mono ?_
  rintro _ w2 ⟨vy, rfl, hv, hg⟩
  have Y1 := Lib.hid hv
  have X2 := Lib.hid (X1.out.grows hg)
  have G2 := Lib.hid (G1.out.trans hg)
  clear hv hg G1 X1
  have G2s := G2.out.size
  go_wp2_with (at_builtin; first | (refine append_nums rfl _ _ 22 rfl w2.heap.size 23 j0 (.int .u64 0) 8 Try.underlying22 hj0 hj1 hj2 hj3 rfl (.slice (some ⟨w2.heap.size, 0, none⟩) 0 0) 0 [] rfl (own_empty (by decide)) .u64 la _ rfl (hpa.out.grows (G2.out.al _)) (by have := La.out; unfold maxLen; omega) (by have := La.out; omega) (by simp only [World.size_alloc]; omega) ?_; intro v3 w3 hown hgr; have O3 := Lib.hid hown; have G3 := Lib.hid (hgr w (G2.out.al _) G2s); have G3' := Lib.hid (hgr w2 ((Grows.refl _).al _) (Nat.le_refl _)); clear hown hgr; have G3s := G3'.out.size) | (refine append_nums rfl _ _ 22 rfl w2.heap.size 23 j0 (.int .u64 0) 8 Try.underlying22 hj0 hj1 hj2 hj3 rfl v3 _ _ rfl O3.out .u64 lb _ rfl (hpb.out.grows G3.out) (by have := La.out; have := Lb.out; unfold maxLen; omega) (by have := La.out; have := Lb.out; omega) G3s ?_; intro v4 w4 hown hgr; have O4 := Lib.hid hown; have G4 := Lib.hid (hgr w G3.out G2s); have G4' := Lib.hid (hgr w2 G3'.out (Nat.le_refl _)); clear hown hgr))
  have N4 : Hid (NumsAt .u64 w4 v4 (la ++ lb)) := Lib.hid (ownsRow_nums (by have := O4.out; simpa [List.length_append, List.map_append] using this) (by have := La.out; have := Lb.out; rw [List.length_append]; omega))
  have Y4 := Lib.hid (Y1.out.grows G4'.out)
  have X4 := Lib.hid (X2.out.grows G4'.out)
  clear O3 O4 G3 G3' G3s G2s Y1 X2 G4' G2
  go_wp2_with fail
  refine (bytes_nums _ (la ++ lb) _ N4.out (by have := La.out; have := Lb.out; rw [List.length_append]; omega) (fun x hx => by rcases List.mem_append.1 hx with h | h; exact hxa.out x h; exact hxb.out x h)).mono ?_
  rw [encs_append]
  rintro _ w5 ⟨vb, rfl, hv, hg⟩
  have B5 := Lib.hid hv
  have X5 := Lib.hid (X4.out.grows hg)
  have Y5 := Lib.hid (Y4.out.grows hg)
  have G5 := Lib.hid (G4.out.trans hg)
  clear hv hg X4 Y4 G4 N4
  have EA : Hid ((encs la).length ≤ 300) := Lib.hid (by have := encs_len la hxa.out; have := La.out; omega)
  have EB : Hid ((encs lb).length ≤ 300) := Lib.hid (by have := encs_len lb hxb.out; have := Lb.out; omega)
  have G5s := G5.out.size
  go_wp2_with (at_builtin; first | (refine append_nums rfl _ _ 24 rfl w5.heap.size 5 i0 (.int .u8 0) 1 Try.underlying24 hi0 hi1 hi2 hi3 rfl (.slice (some ⟨w5.heap.size, 0, none⟩) 0 0) 0 [] rfl (own_empty (by decide)) .u8 (encs la) _ rfl (X5.out.grows (Grows.alloc _ _)) (by have := EA.out; unfold maxLen; omega) (by have := EA.out; omega) (by simp only [World.size_alloc]; omega) ?_; intro v6 w6 hown hgr; have O6 := Lib.hid hown; have G6 := Lib.hid (hgr w (G5.out.al _) G5s); have G6' := Lib.hid (hgr w5 ((Grows.refl _).al _) (Nat.le_refl _)); clear hown hgr; have G6s := G6'.out.size) | (refine append_nums rfl _ _ 24 rfl w5.heap.size 5 i0 (.int .u8 0) 1 Try.underlying24 hi0 hi1 hi2 hi3 rfl v6 _ _ rfl O6.out .u8 (encs lb) _ rfl (Y5.out.grows G6'.out) (by have := EA.out; have := EB.out; unfold maxLen; omega) (by have := EA.out; have := EB.out; omega) G6s ?_; intro v7 w7 hown hgr; have O7 := Lib.hid hown; have G7 := Lib.hid (hgr w G6.out G5s); have G7' := Lib.hid (hgr w5 G6'.out (Nat.le_refl _)); clear hown hgr))
  have N7 : Hid (NumsAt .u8 w7 v7 (encs la ++ encs lb)) := Lib.hid (ownsRow_nums (by have := O7.out; simpa [List.length_append, List.map_append] using this) (by have := EA.out; have := EB.out; rw [List.length_append]; omega))
  have B7 := Lib.hid (B5.out.grows G7'.out)
  clear O6 O7 G6 G6' G6s G5s Y5 X5 G7' G5 B5
  go_wp2_with fail
  refine (Same_yes _ _ _ _ B7.out N7.out).mono ?_
  rintro _ w8 ⟨rfl, hg⟩
  have G8 := Lib.hid (G7.out.trans hg)
  clear hg G7 B7 N7
  go_wp2_with fail
  refine (size_any lo _ Hlo.out).mono ?_
  rintro _ w9 ⟨rfl, hg⟩
  have G9 := Lib.hid (G8.out.trans hg)
  clear hg G8
  go_wp2_with fail
  refine (size_any hi _ Hhi.out).mono ?_
  rintro _ wa ⟨rfl, hg⟩
  have Ga := Lib.hid (G9.out.trans hg)
  clear hg G9
  have SZ1 := SZ.out
  clear hmin hmax
  go_wp2_with fail
  refine (size_any x _ HX.out).mono ?_
  rintro _ wb ⟨rfl, hg⟩
  have Gb := Lib.hid (Ga.out.trans hg)
  clear hg Ga SZ1
  go_wp2_with fail
  refine (bytes_one _ x _ (heap_new _ _ _ rfl) HX.out).mono ?_
  rintro _ wc ⟨vz, rfl, hz, hg⟩
  have Gc := Lib.hid ((Gb.out.al _).trans hg)
  obtain ⟨az, cz, rfl⟩ := hz.shape
  clear hg Gb hz
  go_wp2_with fail
  refine (bytes_one _ x _ (heap_new _ _ _ rfl) HX.out).mono ?_
  rintro _ wd ⟨vz2, rfl, hz, hg⟩
  have Gd := Lib.hid ((Gc.out.al _).trans hg)
  have Z1 := Lib.hid hz
  obtain ⟨az2, cz2, rfl⟩ := hz.shape
  have hzc : (enc x).length ≤ cz2 := by
    obtain ⟨_, ⟨_, h0⟩ | ⟨_, _, cap', hv, _, hc, _⟩⟩ := hz
    · rw [h0]; exact Nat.zero_le _
    · cases hv; exact hc
  clear hg Gc hz
  have L1 := enc_pos x
  have L10 := enc_len10 HX.out
  have HK := Lib.hid (fun k => rd_cut x k HX.out)
  have HB := Lib.hid (enc_byte x)
  generalize hL : (enc x).length = L at L1 L10 hzc HK Z1
  have HL := Lib.hid hL
  clear hL
  obtain ⟨k, hk, hkL⟩ : ∃ k : Nat, wrap64 ((IntKind.u64.wrap cut).tmod L) = (k : Int) ∧ k < L := cut_in cut L L1 L10
  have HkL := Lib.hid hkL
  go_wp2_with fail
  refine (read_any _ ((enc x).take k) _ (NumsAt.take Z1.out (Nat.le_of_lt HkL.out)) (fun y hy => HB.out y (List.mem_of_mem_take hy))).mono ?_
  rw [HK.out k HkL.out]
  rintro _ we ⟨rfl, hg⟩
  have Ge := Lib.hid (Gd.out.trans hg)
  clear hg Gd Z1
  go_wp2_with fail
  refine (kn_any _).mono ?_
  rintro _ wf ⟨rfl, hg⟩
  have Gf := Lib.hid (Ge.out.trans hg)
  clear hg Ge
  go_wp2
  go_ret
  exact ⟨rfl, Gf.out⟩

set_option maxRecDepth 100000 in
set_option maxHeartbeats 4000000 in
theorem law_ordersAB (la lb : List Nat) (a b : Option Addr) (na ca nb cb x y : Nat) (cut : Int) (w : World) (hna : (na : Int) ≤ 30) (hnb : ¬ (nb : Int) ≤ 30) (hac : na ≤ ca) (hbc : nb ≤ cb) (hca : ca ≤ 9223372036854775807) (hcb : cb ≤ 9223372036854775807)
    (Hna : Hid (la.length = na)) (Hnb : Hid (lb.length = 30)) (hxa : Hid (∀ x ∈ la, x < 18446744073709551616)) (hxb : Hid (∀ x ∈ lb, x < 18446744073709551616))
    (hpa : Hid (NumsAt .u64 w (.slice a na ca) la)) (hpb : Hid (NumsAt .u64 w (.slice b 30 cb) lb)) (hx : x < 18446744073709551616) (hy : y < 18446744073709551616) :
    Calls Try.prog 5 #[.slice a na ca, .slice b nb cb, .int .u64 x, .int .u64 y, .int .i64 cut] w (Ret (.bool true) w) := by
  obtain ⟨i0, hi0, hi1, hi2, hi3⟩ := info_parts info8
  obtain ⟨j0, hj0, hj1, hj2, hj3⟩ := info_parts info64
  have La : Hid (la.length ≤ 30) := Lib.hid (by rw [Hna.out]; omega)
  have Lb : Hid (lb.length ≤ 30) := Lib.hid (by rw [Hnb.out]; omega)
  obtain ⟨lo, hlo⟩ : ∃ lo, lo = min x y := ⟨_, rfl⟩
  obtain ⟨hi, hhi⟩ : ∃ hi, hi = max x y := ⟨_, rfl⟩
  have hmin : (if y < x then (y : Int) else x) = (lo : Int) := by omega
  have hmax : (if x < y then (y : Int) else x) = (hi : Int) := by omega
  have Hlo : Hid (lo < 18446744073709551616) := Lib.hid (by omega)
  have Hhi : Hid (hi < 18446744073709551616) := Lib.hid (by omega)
  have SZ : Hid ((enc lo).length ≤ (enc hi).length) := Lib.hid (enc_mono _ _ (by omega))
  have HX := Lib.hid hx
  have HY := Lib.hid hy
  clear hx hy hlo hhi
  go_enter Try.func5, Try.ntmps5
  go_wp2_with fail
  go_quiet (fail)
  have G0 : Hid (Grows w (w.drewN nq)) := Lib.hid ((Grows.refl w).trans ⟨rfl, rfl, rfl, Nat.le_refl _, fun _ _ => rfl⟩)
  generalize w.drewN nq = wq at G0 ⊢
  go_wp2_with fail
  refine (bytes_nums _ la _ (hpa.out.grows G0.out) (by have := La.out; omega) hxa.out).mono ?_
  rintro _ w1 ⟨vx, rfl, hv, hg⟩
  have X1 := Lib.hid hv
  have G1 := Lib.hid (G0.out.trans hg)
  clear hv hg G0
  go_wp2_with fail
  refine (bytes_nums _ lb _ (hpb.out.grows G1.out) (by have := Lb.out; omega) hxb.out).mono ?_
  rintro _ w2 ⟨vy, rfl, hv, hg⟩
  have Y1 := Lib.hid hv
  have X2 := Lib.hid (X1.out.grows hg)
  have G2 := Lib.hid (G1.out.trans hg)
  clear hv hg G1 X1
  have G2s := G2.out.size
  go_wp2_with (at_builtin; first | (refine append_nums rfl _ _ 22 rfl w2.heap.size 23 j0 (.int .u64 0) 8 Try.underlying22 hj0 hj1 hj2 hj3 rfl (.slice (some ⟨w2.heap.size, 0, none⟩) 0 0) 0 [] rfl (own_empty (by decide)) .u64 la _ rfl (hpa.out.grows (G2.out.al _)) (by have := La.out; unfold maxLen; omega) (by have := La.out; omega) (by simp only [World.size_alloc]; omega) ?_; intro v3 w3 hown hgr; have O3 := Lib.hid hown; have G3 := Lib.hid (hgr w (G2.out.al _) G2s); have G3' := Lib.hid (hgr w2 ((Grows.refl _).al _) (Nat.le_refl _)); clear hown hgr; have G3s := G3'.out.size) | (refine append_nums rfl _ _ 22 rfl w2.heap.size 23 j0 (.int .u64 0) 8 Try.underlying22 hj0 hj1 hj2 hj3 rfl v3 _ _ rfl O3.out .u64 lb _ rfl (hpb.out.grows G3.out) (by have := La.out; have := Lb.out; unfold maxLen; omega) (by have := La.out; have := Lb.out; omega) G3s ?_; intro v4 w4 hown hgr; have O4 := Lib.hid hown; have G4 := Lib.hid (hgr w G3.out G2s); have G4' := Lib.hid (hgr w2 G3'.out (Nat.le_refl _)); clear hown hgr))
  have N4 : Hid (NumsAt .u64 w4 v4 (la ++ lb)) := Lib.hid (ownsRow_nums (by have := O4.out; simpa [List.length_append, List.map_append] using this) (by have := La.out; have := Lb.out; rw [List.length_append]; omega))
  have Y4 := Lib.hid (Y1.out.grows G4'.out)
  have X4 := Lib.hid (X2.out.grows G4'.out)
  clear O3 O4 G3 G3' G3s G2s Y1 X2 G4' G2
  go_wp2_with fail
  refine (bytes_nums _ (la ++ lb) _ N4.out (by have := La.out; have := Lb.out; rw [List.length_append]; omega) (fun x hx => by rcases List.mem_append.1 hx with h | h; exact hxa.out x h; exact hxb.out x h)).mono ?_
  rw [encs_append]
  rintro _ w5 ⟨vb, rfl, hv, hg⟩
  have B5 := Lib.hid hv
  have X5 := Lib.hid (X4.out.grows hg)
  have Y5 := Lib.hid (Y4.out.grows hg)
  have G5 := Lib.hid (G4.out.trans hg)
  clear hv hg X4 Y4 G4 N4
  have EA : Hid ((encs la).length ≤ 300) := Lib.hid (by have := encs_len la hxa.out; have := La.out; omega)
  have EB : Hid ((encs lb).length ≤ 300) := Lib.hid (by have := encs_len lb hxb.out; have := Lb.out; omega)
  have G5s := G5.out.size
  go_wp2_with (at_builtin; first | (refine append_nums rfl _ _ 24 rfl w5.heap.size 5 i0 (.int .u8 0) 1 Try.underlying24 hi0 hi1 hi2 hi3 rfl (.slice (some ⟨w5.heap.size, 0, none⟩) 0 0) 0 [] rfl (own_empty (by decide)) .u8 (encs la) _ rfl (X5.out.grows (Grows.alloc _ _)) (by have := EA.out; unfold maxLen; omega) (by have := EA.out; omega) (by simp only [World.size_alloc]; omega) ?_; intro v6 w6 hown hgr; have O6 := Lib.hid hown; have G6 := Lib.hid (hgr w (G5.out.al _) G5s); have G6' := Lib.hid (hgr w5 ((Grows.refl _).al _) (Nat.le_refl _)); clear hown hgr; have G6s := G6'.out.size) | (refine append_nums rfl _ _ 24 rfl w5.heap.size 5 i0 (.int .u8 0) 1 Try.underlying24 hi0 hi1 hi2 hi3 rfl v6 _ _ rfl O6.out .u8 (encs lb) _ rfl (Y5.out.grows G6'.out) (by have := EA.out; have := EB.out; unfold maxLen; omega) (by have := EA.out; have := EB.out; omega) G6s ?_; intro v7 w7 hown hgr; have O7 := Lib.hid hown; have G7 := Lib.hid (hgr w G6.out G5s); have G7' := Lib.hid (hgr w5 G6'.out (Nat.le_refl _)); clear hown hgr))
  have N7 : Hid (NumsAt .u8 w7 v7 (encs la ++ encs lb)) := Lib.hid (ownsRow_nums (by have := O7.out; simpa [List.length_append, List.map_append] using this) (by have := EA.out; have := EB.out; rw [List.length_append]; omega))
  have B7 := Lib.hid (B5.out.grows G7'.out)
  clear O6 O7 G6 G6' G6s G5s Y5 X5 G7' G5 B5
  go_wp2_with fail
  refine (Same_yes _ _ _ _ B7.out N7.out).mono ?_
  rintro _ w8 ⟨rfl, hg⟩
  have G8 := Lib.hid (G7.out.trans hg)
  clear hg G7 B7 N7
  go_wp2_with fail
  refine (size_any lo _ Hlo.out).mono ?_
  rintro _ w9 ⟨rfl, hg⟩
  have G9 := Lib.hid (G8.out.trans hg)
  clear hg G8
  go_wp2_with fail
  refine (size_any hi _ Hhi.out).mono ?_
  rintro _ wa ⟨rfl, hg⟩
  have Ga := Lib.hid (G9.out.trans hg)
  clear hg G9
  have SZ1 := SZ.out
  clear hmin hmax
  go_wp2_with fail
  refine (size_any x _ HX.out).mono ?_
  rintro _ wb ⟨rfl, hg⟩
  have Gb := Lib.hid (Ga.out.trans hg)
  clear hg Ga SZ1
  go_wp2_with fail
  refine (bytes_one _ x _ (heap_new _ _ _ rfl) HX.out).mono ?_
  rintro _ wc ⟨vz, rfl, hz, hg⟩
  have Gc := Lib.hid ((Gb.out.al _).trans hg)
  obtain ⟨az, cz, rfl⟩ := hz.shape
  clear hg Gb hz
  go_wp2_with fail
  refine (bytes_one _ x _ (heap_new _ _ _ rfl) HX.out).mono ?_
  rintro _ wd ⟨vz2, rfl, hz, hg⟩
  have Gd := Lib.hid ((Gc.out.al _).trans hg)
  have Z1 := Lib.hid hz
  obtain ⟨az2, cz2, rfl⟩ := hz.shape
  have hzc : (enc x).length ≤ cz2 := by
    obtain ⟨_, ⟨_, h0⟩ | ⟨_, _, cap', hv, _, hc, _⟩⟩ := hz
    · rw [h0]; exact Nat.zero_le _
    · cases hv; exact hc
  clear hg Gc hz
  have L1 := enc_pos x
  have L10 := enc_len10 HX.out
  have HK := Lib.hid (fun k => rd_cut x k HX.out)
  have HB := Lib.hid (enc_byte x)
  generalize hL : (enc x).length = L at L1 L10 hzc HK Z1
  have HL := Lib.hid hL
  clear hL
  obtain ⟨k, hk, hkL⟩ : ∃ k : Nat, wrap64 ((IntKind.u64.wrap cut).tmod L) = (k : Int) ∧ k < L := cut_in cut L L1 L10
  have HkL := Lib.hid hkL
  go_wp2_with fail
  refine (read_any _ ((enc x).take k) _ (NumsAt.take Z1.out (Nat.le_of_lt HkL.out)) (fun y hy => HB.out y (List.mem_of_mem_take hy))).mono ?_
  rw [HK.out k HkL.out]
  rintro _ we ⟨rfl, hg⟩
  have Ge := Lib.hid (Gd.out.trans hg)
  clear hg Gd Z1
  go_wp2_with fail
  refine (kn_any _).mono ?_
  rintro _ wf ⟨rfl, hg⟩
  have Gf := Lib.hid (Ge.out.trans hg)
  clear hg Ge
  go_wp2
  go_ret
  exact ⟨rfl, Gf.out⟩

set_option maxRecDepth 100000 in
set_option maxHeartbeats 4000000 in
theorem law_ordersBA (la lb : List Nat) (a b : Option Addr) (na ca nb cb x y : Nat) (cut : Int) (w : World) (hna : ¬ (na : Int) ≤ 30) (hnb : (nb : Int) ≤ 30) (hac : na ≤ ca) (hbc : nb ≤ cb) (hca : ca ≤ 9223372036854775807) (hcb : cb ≤ 9223372036854775807)
    (Hna : Hid (la.length = 30)) (Hnb : Hid (lb.length = nb)) (hxa : Hid (∀ x ∈ la, x < 18446744073709551616)) (hxb : Hid (∀ x ∈ lb, x < 18446744073709551616))
    (hpa : Hid (NumsAt .u64 w (.slice a 30 ca) la)) (hpb : Hid (NumsAt .u64 w (.slice b nb cb) lb)) (hx : x < 18446744073709551616) (hy : y < 18446744073709551616) :
    Calls Try.prog 5 #[.slice a na ca, .slice b nb cb, .int .u64 x, .int .u64 y, .int .i64 cut] w (Ret (.bool true) w) := by
  obtain ⟨i0, hi0, hi1, hi2, hi3⟩ := info_parts info8
  obtain ⟨j0, hj0, hj1, hj2, hj3⟩ := info_parts info64
  have La : Hid (la.length ≤ 30) := Lib.hid (by rw [Hna.out]; omega)
  have Lb : Hid (lb.length ≤ 30) := Lib.hid (by rw [Hnb.out]; omega)
  obtain ⟨lo, hlo⟩ : ∃ lo, lo = min x y := ⟨_, rfl⟩
  obtain ⟨hi, hhi⟩ : ∃ hi, hi = max x y := ⟨_, rfl⟩
  have hmin : (if y < x then (y : Int) else x) = (lo : Int) := by omega
  have hmax : (if x < y then (y : Int) else x) = (hi : Int) := by omega
  have Hlo : Hid (lo < 18446744073709551616) := Lib.hid (by omega)
  have Hhi : Hid (hi < 18446744073709551616) := Lib.hid (by omega)
  have SZ : Hid ((enc lo).length ≤ (enc hi).length) := Lib.hid (enc_mono _ _ (by omega))
  have HX := Lib.hid hx
  have HY := Lib.hid hy
  clear hx hy hlo hhi
  go_enter Try.func5, Try.ntmps5
  go_wp2_with fail
  go_quiet (fail)
  have G0 : Hid (Grows w (w.drewN nq)) := Lib.hid ((Grows.refl w).trans ⟨rfl, rfl, rfl, Nat.le_refl _, fun _ _ => rfl⟩)
  generalize w.drewN nq = wq at G0 ⊢
  go_wp2_with fail
  refine (bytes_nums _ la _ (hpa.out.grows G0.out) (by have := La.out; omega) hxa.out).mono ?_
  rintro _ w1 ⟨vx, rfl, hv, hg⟩
  have X1 := Lib.hid hv
  have G1 := Lib.hid (G0.out.trans hg)
  clear hv hg G0
  go_wp2_with fail
  refine (bytes_nums _ lb _ (hpb.out.grows G1.out) (by have := Lb.out; omega) hxb.out).mono ?_
  rintro _ w2 ⟨vy, rfl, hv, hg⟩
  have Y1 := Lib.hid hv
  have X2 := Lib.hid (X1.out.grows hg)
  have G2 := Lib.hid (G1.out.trans hg)
  clear hv hg G1 X1
  have G2s := G2.out.size
  go_wp2_with (at_builtin; first | (refine append_nums rfl _ _ 22 rfl w2.heap.size 23 j0 (.int .u64 0) 8 Try.underlying22 hj0 hj1 hj2 hj3 rfl (.slice (some ⟨w2.heap.size, 0, none⟩) 0 0) 0 [] rfl (own_empty (by decide)) .u64 la _ rfl (hpa.out.grows (G2.out.al _)) (by have := La.out; unfold maxLen; omega) (by have := La.out; omega) (by simp only [World.size_alloc]; omega) ?_; intro v3 w3 hown hgr; have O3 := Lib.hid hown; have G3 := Lib.hid (hgr w (G2.out.al _) G2s); have G3' := Lib.hid (hgr w2 ((Grows.refl _).al _) (Nat.le_refl _)); clear hown hgr; have G3s := G3'.out.size) | (refine append_nums rfl _ _ 22 rfl w2.heap.size 23 j0 (.int .u64 0) 8 Try.underlying22 hj0 hj1 hj2 hj3 rfl v3 _ _ rfl O3.out .u64 lb _ rfl (hpb.out.grows G3.out) (by have := La.out; have := Lb.out; unfold maxLen; omega) (by have := La.out; have := Lb.out; omega) G3s ?_; intro v4 w4 hown hgr; have O4 := Lib.hid hown; have G4 := Lib.hid (hgr w G3.out G2s); have G4' := Lib.hid (hgr w2 G3'.out (Nat.le_refl _)); clear hown hgr))
  have N4 : Hid (NumsAt .u64 w4 v4 (la ++ lb)) := Lib.hid (ownsRow_nums (by have := O4.out; simpa [List.length_append, List.map_append] using this) (by have := La.out; have := Lb.out; rw [List.length_append]; omega))
  have Y4 := Lib.hid (Y1.out.grows G4'.out)
  have X4 := Lib.hid (X2.out.grows G4'.out)
  clear O3 O4 G3 G3' G3s G2s Y1 X2 G4' G2
  go_wp2_with fail
  refine (bytes_nums _ (la ++ lb) _ N4.out (by have := La.out; have := Lb.out; rw [List.length_append]; omega) (fun x hx => by rcases List.mem_append.1 hx with h | h; exact hxa.out x h; exact hxb.out x h)).mono ?_
  rw [encs_append]
  rintro _ w5 ⟨vb, rfl, hv, hg⟩
  have B5 := Lib.hid hv
  have X5 := Lib.hid (X4.out.grows hg)
  have Y5 := Lib.hid (Y4.out.grows hg)
  have G5 := Lib.hid (G4.out.trans hg)
  clear hv hg X4 Y4 G4 N4
  have EA : Hid ((encs la).length ≤ 300) := Lib.hid (by have := encs_len la hxa.out; have := La.out; omega)
  have EB : Hid ((encs lb).length ≤ 300) := Lib.hid (by have := encs_len lb hxb.out; have := Lb.out; omega)
  have G5s := G5.out.size
  go_wp2_with (at_builtin; first | (refine append_nums rfl _ _ 24 rfl w5.heap.size 5 i0 (.int .u8 0) 1 Try.underlying24 hi0 hi1 hi2 hi3 rfl (.slice (some ⟨w5.heap.size, 0, none⟩) 0 0) 0 [] rfl (own_empty (by decide)) .u8 (encs la) _ rfl (X5.out.grows (Grows.alloc _ _)) (by have := EA.out; unfold maxLen; omega) (by have := EA.out; omega) (by simp only [World.size_alloc]; omega) ?_; intro v6 w6 hown hgr; have O6 := Lib.hid hown; have G6 := Lib.hid (hgr w (G5.out.al _) G5s); have G6' := Lib.hid (hgr w5 ((Grows.refl _).al _) (Nat.le_refl _)); clear hown hgr; have G6s := G6'.out.size) | (refine append_nums rfl _ _ 24 rfl w5.heap.size 5 i0 (.int .u8 0) 1 Try.underlying24 hi0 hi1 hi2 hi3 rfl v6 _ _ rfl O6.out .u8 (encs lb) _ rfl (Y5.out.grows G6'.out) (by have := EA.out; have := EB.out; unfold maxLen; omega) (by have := EA.out; have := EB.out; omega) G6s ?_; intro v7 w7 hown hgr; have O7 := Lib.hid hown; have G7 := Lib.hid (hgr w G6.out G5s); have G7' := Lib.hid (hgr w5 G6'.out (Nat.le_refl _)); clear hown hgr))
  have N7 : Hid (NumsAt .u8 w7 v7 (encs la ++ encs lb)) := Lib.hid (ownsRow_nums (by have := O7.out; simpa [List.length_append, List.map_append] using this) (by have := EA.out; have := EB.out; rw [List.length_append]; omega))
  have B7 := Lib.hid (B5.out.grows G7'.out)
  clear O6 O7 G6 G6' G6s G5s Y5 X5 G7' G5 B5
  go_wp2_with fail
  refine (Same_yes _ _ _ _ B7.out N7.out).mono ?_
  rintro _ w8 ⟨rfl, hg⟩
  have G8 := Lib.hid (G7.out.trans hg)
  clear hg G7 B7 N7
  go_wp2_with fail
  refine (size_any lo _ Hlo.out).mono ?_
  rintro _ w9 ⟨rfl, hg⟩
  have G9 := Lib.hid (G8.out.trans hg)
  clear hg G8
  go_wp2_with fail
  refine (size_any hi _ Hhi.out).mono ?_
  rintro _ wa ⟨rfl, hg⟩
  have Ga := Lib.hid (G9.out.trans hg)
  clear hg G9
  have SZ1 := SZ.out
  clear hmin hmax
  go_wp2_with fail
  refine (size_any x _ HX.out).mono ?_
  rintro _ wb ⟨rfl, hg⟩
  have Gb := Lib.hid (Ga.out.trans hg)
  clear hg Ga SZ1
  go_wp2_with fail
  refine (bytes_one _ x _ (heap_new _ _ _ rfl) HX.out).mono ?_
  rintro _ wc ⟨vz, rfl, hz, hg⟩
  have Gc := Lib.hid ((Gb.out.al _).trans hg)
  obtain ⟨az, cz, rfl⟩ := hz.shape
  clear hg Gb hz
  go_wp2_with fail
  refine (bytes_one _ x _ (heap_new _ _ _ rfl) HX.out).mono ?_
  rintro _ wd ⟨vz2, rfl, hz, hg⟩
  have Gd := Lib.hid ((Gc.out.al _).trans hg)
  have Z1 := Lib.hid hz
  obtain ⟨az2, cz2, rfl⟩ := hz.shape
  have hzc : (enc x).length ≤ cz2 := by
    obtain ⟨_, ⟨_, h0⟩ | ⟨_, _, cap', hv, _, hc, _⟩⟩ := hz
    · rw [h0]; exact Nat.zero_le _
    · cases hv; exact hc
  clear hg Gc hz
  have L1 := enc_pos x
  have L10 := enc_len10 HX.out
  have HK := Lib.hid (fun k => rd_cut x k HX.out)
  have HB := Lib.hid (enc_byte x)
  generalize hL : (enc x).length = L at L1 L10 hzc HK Z1
  have HL := Lib.hid hL
  clear hL
  obtain ⟨k, hk, hkL⟩ : ∃ k : Nat, wrap64 ((IntKind.u64.wrap cut).tmod L) = (k : Int) ∧ k < L := cut_in cut L L1 L10
  have HkL := Lib.hid hkL
  go_wp2_with fail
  refine (read_any _ ((enc x).take k) _ (NumsAt.take Z1.out (Nat.le_of_lt HkL.out)) (fun y hy => HB.out y (List.mem_of_mem_take hy))).mono ?_
  rw [HK.out k HkL.out]
  rintro _ we ⟨rfl, hg⟩
  have Ge := Lib.hid (Gd.out.trans hg)
  clear hg Gd Z1
  go_wp2_with fail
  refine (kn_any _).mono ?_
  rintro _ wf ⟨rfl, hg⟩
  have Gf := Lib.hid (Ge.out.trans hg)
  clear hg Ge
  go_wp2
  go_ret
  exact ⟨rfl, Gf.out⟩

set_option maxRecDepth 100000 in
set_option maxHeartbeats 4000000 in
theorem law_ordersBB (la lb : List Nat) (a b : Option Addr) (na ca nb cb x y : Nat) (cut : Int) (w : World) (hna : ¬ (na : Int) ≤ 30) (hnb : ¬ (nb : Int) ≤ 30) (hac : na ≤ ca) (hbc : nb ≤ cb) (hca : ca ≤ 9223372036854775807) (hcb : cb ≤ 9223372036854775807)
    (Hna : Hid (la.length = 30)) (Hnb : Hid (lb.length = 30)) (hxa : Hid (∀ x ∈ la, x < 18446744073709551616)) (hxb : Hid (∀ x ∈ lb, x < 18446744073709551616))
    (hpa : Hid (NumsAt .u64 w (.slice a 30 ca) la)) (hpb : Hid (NumsAt .u64 w (.slice b 30 cb) lb)) (hx : x < 18446744073709551616) (hy : y < 18446744073709551616) :
    Calls Try.prog 5 #[.slice a na ca, .slice b nb cb, .int .u64 x, .int .u64 y, .int .i64 cut] w (Ret (.bool true) w) := by
  obtain ⟨i0, hi0, hi1, hi2, hi3⟩ := info_parts info8
  obtain ⟨j0, hj0, hj1, hj2, hj3⟩ := info_parts info64
  have La : Hid (la.length ≤ 30) := Lib.hid (by rw [Hna.out]; omega)
  have Lb : Hid (lb.length ≤ 30) := Lib.hid (by rw [Hnb.out]; omega)
  obtain ⟨lo, hlo⟩ : ∃ lo, lo = min x y := ⟨_, rfl⟩
  obtain ⟨hi, hhi⟩ : ∃ hi, hi = max x y := ⟨_, rfl⟩
  have hmin : (if y < x then (y : Int) else x) = (lo : Int) := by omega
  have hmax : (if x < y then (y : Int) else x) = (hi : Int) := by omega
  have Hlo : Hid (lo < 18446744073709551616) := Lib.hid (by omega)
  have Hhi : Hid (hi < 18446744073709551616) := Lib.hid (by omega)
  have SZ : Hid ((enc lo).length ≤ (enc hi).length) := Lib.hid (enc_mono _ _ (by omega))
  have HX := Lib.hid hx
  have HY := Lib.hid hy
  clear hx hy hlo hhi
  go_enter Try.func5, Try.ntmps5
  go_wp2_with fail
  go_quiet (fail)
  have G0 : Hid (Grows w (w.drewN nq)) := Lib.hid ((Grows.refl w).trans ⟨rfl, rfl, rfl, Nat.le_refl _, fun _ _ => rfl⟩)
  generalize w.drewN nq = wq at G0 ⊢
  go_wp2_with fail
  refine (bytes_nums _ la _ (hpa.out.grows G0.out) (by have := La.out; omega) hxa.out).mono ?_
  rintro _ w1 ⟨vx, rfl, hv, hg⟩
  have X1 := Lib.hid hv
  have G1 := Lib.hid (G0.out.trans hg)
  clear hv hg G0
  go_wp2_with fail
  refine (bytes_nums _ lb _ (hpb.out.grows G1.out) (by have := Lb.out; omega) hxb.out).mono ?_
  rintro _ w2 ⟨vy, rfl, hv, hg⟩
  have Y1 := Lib.hid hv
  have X2 := Lib.hid (X1.out.grows hg)
  have G2 := Lib.hid (G1.out.trans hg)
  clear hv hg G1 X1
  have G2s := G2.out.size
  go_wp2_with (at_builtin; first | (refine append_nums rfl _ _ 22 rfl w2.heap.size 23 j0 (.int .u64 0) 8 Try.underlying22 hj0 hj1 hj2 hj3 rfl (.slice (some ⟨w2.heap.size, 0, none⟩) 0 0) 0 [] rfl (own_empty (by decide)) .u64 la _ rfl (hpa.out.grows (G2.out.al _)) (by have := La.out; unfold maxLen; omega) (by have := La.out; omega) (by simp only [World.size_alloc]; omega) ?_; intro v3 w3 hown hgr; have O3 := Lib.hid hown; have G3 := Lib.hid (hgr w (G2.out.al _) G2s); have G3' := Lib.hid (hgr w2 ((Grows.refl _).al _) (Nat.le_refl _)); clear hown hgr; have G3s := G3'.out.size) | (refine append_nums rfl _ _ 22 rfl w2.heap.size 23 j0 (.int .u64 0) 8 Try.underlying22 hj0 hj1 hj2 hj3 rfl v3 _ _ rfl O3.out .u64 lb _ rfl (hpb.out.grows G3.out) (by have := La.out; have := Lb.out; unfold maxLen; omega) (by have := La.out; have := Lb.out; omega) G3s ?_; intro v4 w4 hown hgr; have O4 := Lib.hid hown; have G4 := Lib.hid (hgr w G3.out G2s); have G4' := Lib.hid (hgr w2 G3'.out (Nat.le_refl _)); clear hown hgr))
  have N4 : Hid (NumsAt .u64 w4 v4 (la ++ lb)) := Lib.hid (ownsRow_nums (by have := O4.out; simpa [List.length_append, List.map_append] using this) (by have := La.out; have := Lb.out; rw [List.length_append]; omega))
  have Y4 := Lib.hid (Y1.out.grows G4'.out)
  have X4 := Lib.hid (X2.out.grows G4'.out)
  clear O3 O4 G3 G3' G3s G2s Y1 X2 G4' G2
  go_wp2_with fail
  refine (bytes_nums _ (la ++ lb) _ N4.out (by have := La.out; have := Lb.out; rw [List.length_append]; omega) (fun x hx => by rcases List.mem_append.1 hx with h | h; exact hxa.out x h; exact hxb.out x h)).mono ?_
  rw [encs_append]
  rintro _ w5 ⟨vb, rfl, hv, hg⟩
  have B5 := Lib.hid hv
  have X5 := Lib.hid (X4.out.grows hg)
  have Y5 := Lib.hid (Y4.out.grows hg)
  have G5 := Lib.hid (G4.out.trans hg)
  clear hv hg X4 Y4 G4 N4
  have EA : Hid ((encs la).length ≤ 300) := Lib.hid (by have := encs_len la hxa.out; have := La.out; omega)
  have EB : Hid ((encs lb).length ≤ 300) := Lib.hid (by have := encs_len lb hxb.out; have := Lb.out; omega)
  have G5s := G5.out.size
  go_wp2_with (at_builtin; first | (refine append_nums rfl _ _ 24 rfl w5.heap.size 5 i0 (.int .u8 0) 1 Try.underlying24 hi0 hi1 hi2 hi3 rfl (.slice (some ⟨w5.heap.size, 0, none⟩) 0 0) 0 [] rfl (own_empty (by decide)) .u8 (encs la) _ rfl (X5.out.grows (Grows.alloc _ _)) (by have := EA.out; unfold maxLen; omega) (by have := EA.out; omega) (by simp only [World.size_alloc]; omega) ?_; intro v6 w6 hown hgr; have O6 := Lib.hid hown; have G6 := Lib.hid (hgr w (G5.out.al _) G5s); have G6' := Lib.hid (hgr w5 ((Grows.refl _).al _) (Nat.le_refl _)); clear hown hgr; have G6s := G6'.out.size) | (refine append_nums rfl _ _ 24 rfl w5.heap.size 5 i0 (.int .u8 0) 1 Try.underlying24 hi0 hi1 hi2 hi3 rfl v6 _ _ rfl O6.out .u8 (encs lb) _ rfl (Y5.out.grows G6'.out) (by have := EA.out; have := EB.out; unfold maxLen; omega) (by have := EA.out; have := EB.out; omega) G6s ?_; intro v7 w7 hown hgr; have O7 := Lib.hid hown; have G7 := Lib.hid (hgr w G6.out G5s); have G7' := Lib.hid (hgr w5 G6'.out (Nat.le_refl _)); clear hown hgr))
  have N7 : Hid (NumsAt .u8 w7 v7 (encs la ++ encs lb)) := Lib.hid (ownsRow_nums (by have := O7.out; simpa [List.length_append, List.map_append] using this) (by have := EA.out; have := EB.out; rw [List.length_append]; omega))
  have B7 := Lib.hid (B5.out.grows G7'.out)
  clear O6 O7 G6 G6' G6s G5s Y5 X5 G7' G5 B5
  go_wp2_with fail
  refine (Same_yes _ _ _ _ B7.out N7.out).mono ?_
  rintro _ w8 ⟨rfl, hg⟩
  have G8 := Lib.hid (G7.out.trans hg)
  clear hg G7 B7 N7
  go_wp2_with fail
  refine (size_any lo _ Hlo.out).mono ?_
  rintro _ w9 ⟨rfl, hg⟩
  have G9 := Lib.hid (G8.out.trans hg)
  clear hg G8
  go_wp2_with fail
  refine (size_any hi _ Hhi.out).mono ?_
  rintro _ wa ⟨rfl, hg⟩
  have Ga := Lib.hid (G9.out.trans hg)
  clear hg G9
  have SZ1 := SZ.out
  clear hmin hmax
  go_wp2_with fail
  refine (size_any x _ HX.out).mono ?_
  rintro _ wb ⟨rfl, hg⟩
  have Gb := Lib.hid (Ga.out.trans hg)
  clear hg Ga SZ1
  go_wp2_with fail
  refine (bytes_one _ x _ (heap_new _ _ _ rfl) HX.out).mono ?_
  rintro _ wc ⟨vz, rfl, hz, hg⟩
  have Gc := Lib.hid ((Gb.out.al _).trans hg)
  obtain ⟨az, cz, rfl⟩ := hz.shape
  clear hg Gb hz
  go_wp2_with fail
  refine (bytes_one _ x _ (heap_new _ _ _ rfl) HX.out).mono ?_
  rintro _ wd ⟨vz2, rfl, hz, hg⟩
  have Gd := Lib.hid ((Gc.out.al _).trans hg)
  have Z1 := Lib.hid hz
  obtain ⟨az2, cz2, rfl⟩ := hz.shape
  have hzc : (enc x).length ≤ cz2 := by
    obtain ⟨_, ⟨_, h0⟩ | ⟨_, _, cap', hv, _, hc, _⟩⟩ := hz
    · rw [h0]; exact Nat.zero_le _
    · cases hv; exact hc
  clear hg Gc hz
  have L1 := enc_pos x
  have L10 := enc_len10 HX.out
  have HK := Lib.hid (fun k => rd_cut x k HX.out)
  have HB := Lib.hid (enc_byte x)
  generalize hL : (enc x).length = L at L1 L10 hzc HK Z1
  have HL := Lib.hid hL
  clear hL
  obtain ⟨k, hk, hkL⟩ : ∃ k : Nat, wrap64 ((IntKind.u64.wrap cut).tmod L) = (k : Int) ∧ k < L := cut_in cut L L1 L10
  have HkL := Lib.hid hkL
  go_wp2_with fail
  refine (read_any _ ((enc x).take k) _ (NumsAt.take Z1.out (Nat.le_of_lt HkL.out)) (fun y hy => HB.out y (List.mem_of_mem_take hy))).mono ?_
  rw [HK.out k HkL.out]
  rintro _ we ⟨rfl, hg⟩
  have Ge := Lib.hid (Gd.out.trans hg)
  clear hg Gd Z1
  go_wp2_with fail
  refine (kn_any _).mono ?_
  rintro _ wf ⟨rfl, hg⟩
  have Gf := Lib.hid (Ge.out.trans hg)
  clear hg Ge
  go_wp2
  go_ret
  exact ⟨rfl, Gf.out⟩
end Go.Proofs.Ytfhdljobndamgaa
