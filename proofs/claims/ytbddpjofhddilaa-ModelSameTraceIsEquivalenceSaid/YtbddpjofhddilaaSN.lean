/- The law of the equivalence, walked. -/
import Derived.Test.YtbddpjofhddilaaSM
namespace Go.Proofs.Ytbddpjofhddilaa
open Go.RowKit

theorem twelve_cells (w : World) (x0 x1 x2 x3 y0 y1 y2 y3 z0 z1 z2 z3 : Value) : ((((w.alloc (.cells #[x0, x1, x2, x3] 33)).alloc (.cells #[y0, y1, y2, y3] 33)).alloc (.cells #[z0, z1, z2, z3] 33)).cell? ⟨w.heap.size, 0, none⟩ = some x0 ∧ (((w.alloc (.cells #[x0, x1, x2, x3] 33)).alloc (.cells #[y0, y1, y2, y3] 33)).alloc (.cells #[z0, z1, z2, z3] 33)).cell? ⟨w.heap.size, 1, none⟩ = some x1 ∧ (((w.alloc (.cells #[x0, x1, x2, x3] 33)).alloc (.cells #[y0, y1, y2, y3] 33)).alloc (.cells #[z0, z1, z2, z3] 33)).cell? ⟨w.heap.size, 2, none⟩ = some x2 ∧ (((w.alloc (.cells #[x0, x1, x2, x3] 33)).alloc (.cells #[y0, y1, y2, y3] 33)).alloc (.cells #[z0, z1, z2, z3] 33)).cell? ⟨w.heap.size, 3, none⟩ = some x3) ∧
    ((((w.alloc (.cells #[x0, x1, x2, x3] 33)).alloc (.cells #[y0, y1, y2, y3] 33)).alloc (.cells #[z0, z1, z2, z3] 33)).cell? ⟨w.heap.size + 1, 0, none⟩ = some y0 ∧ (((w.alloc (.cells #[x0, x1, x2, x3] 33)).alloc (.cells #[y0, y1, y2, y3] 33)).alloc (.cells #[z0, z1, z2, z3] 33)).cell? ⟨w.heap.size + 1, 1, none⟩ = some y1 ∧ (((w.alloc (.cells #[x0, x1, x2, x3] 33)).alloc (.cells #[y0, y1, y2, y3] 33)).alloc (.cells #[z0, z1, z2, z3] 33)).cell? ⟨w.heap.size + 1, 2, none⟩ = some y2 ∧ (((w.alloc (.cells #[x0, x1, x2, x3] 33)).alloc (.cells #[y0, y1, y2, y3] 33)).alloc (.cells #[z0, z1, z2, z3] 33)).cell? ⟨w.heap.size + 1, 3, none⟩ = some y3) ∧
    ((((w.alloc (.cells #[x0, x1, x2, x3] 33)).alloc (.cells #[y0, y1, y2, y3] 33)).alloc (.cells #[z0, z1, z2, z3] 33)).cell? ⟨w.heap.size + 1 + 1, 0, none⟩ = some z0 ∧ (((w.alloc (.cells #[x0, x1, x2, x3] 33)).alloc (.cells #[y0, y1, y2, y3] 33)).alloc (.cells #[z0, z1, z2, z3] 33)).cell? ⟨w.heap.size + 1 + 1, 1, none⟩ = some z1 ∧ (((w.alloc (.cells #[x0, x1, x2, x3] 33)).alloc (.cells #[y0, y1, y2, y3] 33)).alloc (.cells #[z0, z1, z2, z3] 33)).cell? ⟨w.heap.size + 1 + 1, 2, none⟩ = some z2 ∧ (((w.alloc (.cells #[x0, x1, x2, x3] 33)).alloc (.cells #[y0, y1, y2, y3] 33)).alloc (.cells #[z0, z1, z2, z3] 33)).cell? ⟨w.heap.size + 1 + 1, 3, none⟩ = some z3) := by
  refine ⟨⟨?_, ?_, ?_, ?_⟩, ⟨?_, ?_, ?_, ?_⟩, ?_, ?_, ?_, ?_⟩
  all_goals go_simp
theorem held_next12 {wr W W' : World} {a0 a1 a2 a3 a4 a5 a6 a7 a8 a9 a10 a11 : Addr} {v0 v1 v2 v3 v4 v5 v6 v7 v8 v9 v10 v11 : Value} (g : W.grownBy W' none) (h : wr.grownBy W none) (h0 : W.cell? a0 = some v0) (h1 : W.cell? a1 = some v1) (h2 : W.cell? a2 = some v2) (h3 : W.cell? a3 = some v3) (h4 : W.cell? a4 = some v4) (h5 : W.cell? a5 = some v5) (h6 : W.cell? a6 = some v6) (h7 : W.cell? a7 = some v7) (h8 : W.cell? a8 = some v8) (h9 : W.cell? a9 = some v9) (h10 : W.cell? a10 = some v10) (h11 : W.cell? a11 = some v11) :
    wr.grownBy W' none ∧ W'.cell? a0 = some v0 ∧ W'.cell? a1 = some v1 ∧ W'.cell? a2 = some v2 ∧ W'.cell? a3 = some v3 ∧ W'.cell? a4 = some v4 ∧ W'.cell? a5 = some v5 ∧ W'.cell? a6 = some v6 ∧ W'.cell? a7 = some v7 ∧ W'.cell? a8 = some v8 ∧ W'.cell? a9 = some v9 ∧ W'.cell? a10 = some v10 ∧ W'.cell? a11 = some v11 :=
  ⟨h.trans g, g.cell h0 (by simp), g.cell h1 (by simp), g.cell h2 (by simp), g.cell h3 (by simp), g.cell h4 (by simp), g.cell h5 (by simp), g.cell h6 (by simp), g.cell h7 (by simp), g.cell h8 (by simp), g.cell h9 (by simp), g.cell h10 (by simp), g.cell h11 (by simp)⟩

set_option maxRecDepth 100000 in
set_option maxHeartbeats 20000000 in
theorem equivalence_calls (hh : HeadSays) (us0 : List Int) (sa0 : Option Addr) (sc0 : Nat) (st0 : Int) (ta0 : Option Addr) (L0 : List (List Rl)) (tc0 : Nat) (lp0 : Int) (us1 : List Int) (sa1 : Option Addr) (sc1 : Nat) (st1 : Int) (ta1 : Option Addr) (L1 : List (List Rl)) (tc1 : Nat) (lp1 : Int) (us2 : List Int) (sa2 : Option Addr) (sc2 : Nat) (st2 : Int) (ta2 : Option Addr) (L2 : List (List Rl)) (tc2 : Nat) (lp2 : Int) (w : World) (hu0 : Ints w sa0 sc0 us0) (hT0 : Sts w ta0 tc0 L0) (hu1 : Ints w sa1 sc1 us1) (hT1 : Sts w ta1 tc1 L1) (hu2 : Ints w sa2 sc2 us2) (hT2 : Sts w ta2 tc2 L2) :
    Calls Try.prog 5 #[.agg #[.slice sa0 us0.length sc0, .int .i64 st0, .slice ta0 L0.length tc0, .int .i64 lp0], .agg #[.slice sa1 us1.length sc1, .int .i64 st1, .slice ta1 L1.length tc1, .int .i64 lp1], .agg #[.slice sa2 us2.length sc2, .int .i64 st2, .slice ta2 L2.length tc2, .int .i64 lp2]] w fun e w' => e = .returned (.bool true) ∧ w.grownBy w' none := by
  have HSM0 := Lib.hid (fun (W' : World) (hW' : w.grownBy W' none) => small_calls none none none none 0 0 0 0 0 0 0 [] sa0 us0.length sc0 st0 ta0 L0 tc0 lp0 W' ⟨Nat.le_refl _, fun j f hj => by simp at hj⟩ (hT0.grown hW'))
  simp only [List.length_nil] at HSM0
  have HLO0 := Lib.hid (fun (W' : World) => rLooped_calls sa0 us0.length sc0 st0 ta0 L0.length tc0 lp0 W')
  obtain ⟨n0, hn0⟩ : ∃ n, us0.length = n := ⟨_, rfl⟩
  obtain ⟨k0, hk0⟩ : ∃ k, L0.length = k := ⟨_, rfl⟩
  rw [hn0, hk0] at HSM0 HLO0
  rw [hn0, hk0]
  have HN0 := Lib.hid (And.intro hn0 (And.intro hk0 (And.intro hu0 hT0))); clear hn0 hk0 hu0 hT0
  have HSM1 := Lib.hid (fun (W' : World) (hW' : w.grownBy W' none) => small_calls none none none none 0 0 0 0 0 0 0 [] sa1 us1.length sc1 st1 ta1 L1 tc1 lp1 W' ⟨Nat.le_refl _, fun j f hj => by simp at hj⟩ (hT1.grown hW'))
  simp only [List.length_nil] at HSM1
  have HLO1 := Lib.hid (fun (W' : World) => rLooped_calls sa1 us1.length sc1 st1 ta1 L1.length tc1 lp1 W')
  obtain ⟨n1, hn1⟩ : ∃ n, us1.length = n := ⟨_, rfl⟩
  obtain ⟨k1, hk1⟩ : ∃ k, L1.length = k := ⟨_, rfl⟩
  rw [hn1, hk1] at HSM1 HLO1
  rw [hn1, hk1]
  have HN1 := Lib.hid (And.intro hn1 (And.intro hk1 (And.intro hu1 hT1))); clear hn1 hk1 hu1 hT1
  have HSM2 := Lib.hid (fun (W' : World) (hW' : w.grownBy W' none) => small_calls none none none none 0 0 0 0 0 0 0 [] sa2 us2.length sc2 st2 ta2 L2 tc2 lp2 W' ⟨Nat.le_refl _, fun j f hj => by simp at hj⟩ (hT2.grown hW'))
  simp only [List.length_nil] at HSM2
  have HLO2 := Lib.hid (fun (W' : World) => rLooped_calls sa2 us2.length sc2 st2 ta2 L2.length tc2 lp2 W')
  obtain ⟨n2, hn2⟩ : ∃ n, us2.length = n := ⟨_, rfl⟩
  obtain ⟨k2, hk2⟩ : ∃ k, L2.length = k := ⟨_, rfl⟩
  rw [hn2, hk2] at HSM2 HLO2
  rw [hn2, hk2]
  have HN2 := Lib.hid (And.intro hn2 (And.intro hk2 (And.intro hu2 hT2))); clear hn2 hk2 hu2 hT2
  have hg := ((World.grownBy_alloc w (.cells #[.slice sa0 n0 sc0, .int .i64 st0, .slice ta0 k0 tc0, .int .i64 lp0] 33) none).trans (World.grownBy_alloc _ (.cells #[.slice sa1 n1 sc1, .int .i64 st1, .slice ta1 k1 tc1, .int .i64 lp1] 33) none)).trans (World.grownBy_alloc _ (.cells #[.slice sa2 n2 sc2, .int .i64 st2, .slice ta2 k2 tc2, .int .i64 lp2] 33) none)
  have hc := twelve_cells w (.slice sa0 n0 sc0) (.int .i64 st0) (.slice ta0 k0 tc0) (.int .i64 lp0) (.slice sa1 n1 sc1) (.int .i64 st1) (.slice ta1 k1 tc1) (.int .i64 lp1) (.slice sa2 n2 sc2) (.int .i64 st2) (.slice ta2 k2 tc2) (.int .i64 lp2)
  obtain ⟨W, hW⟩ : ∃ W, ((w.alloc (.cells #[.slice sa0 n0 sc0, .int .i64 st0, .slice ta0 k0 tc0, .int .i64 lp0] 33)).alloc (.cells #[.slice sa1 n1 sc1, .int .i64 st1, .slice ta1 k1 tc1, .int .i64 lp1] 33)).alloc (.cells #[.slice sa2 n2 sc2, .int .i64 st2, .slice ta2 k2 tc2, .int .i64 lp2] 33) = W := ⟨_, rfl⟩
  rw [hW] at hg hc
  have HG := Lib.hid hg; clear hg
  have HBX := Lib.hid (fun (W' : World) (g : W.grownBy W' none) => And.intro (⟨g.cell hc.1.1 (by simp), g.cell hc.1.2.1 (by simp), g.cell hc.1.2.2.1 (by simp), g.cell hc.1.2.2.2 (by simp)⟩ : Box W' (w.heap.size) sa0 n0 sc0 st0 ta0 k0 tc0 lp0)
    (And.intro (⟨g.cell hc.2.1.1 (by simp), g.cell hc.2.1.2.1 (by simp), g.cell hc.2.1.2.2.1 (by simp), g.cell hc.2.1.2.2.2 (by simp)⟩ : Box W' (w.heap.size + 1) sa1 n1 sc1 st1 ta1 k1 tc1 lp1)
      (⟨g.cell hc.2.2.1 (by simp), g.cell hc.2.2.2.1 (by simp), g.cell hc.2.2.2.2.1 (by simp), g.cell hc.2.2.2.2.2 (by simp)⟩ : Box W' (w.heap.size + 1 + 1) sa2 n2 sc2 st2 ta2 k2 tc2 lp2)))
  clear hc
  have HW := Lib.hid hW; clear hW
  go_enter Try.func5, Try.ntmps5
  go_wp2_with fail
  rw [HW.out]
  clear HW
  refine (hh W).mono ?_
  rintro e w0 ⟨rfl, g0⟩
  have HG0 := Lib.hid g0; clear g0
  obtain ⟨⟨a0, a1, a2, a3⟩, ⟨b0, b1, b2, b3⟩, ⟨c0, c1, c2, c3⟩⟩ := HBX.out _ HG0.out
  go_wp2_with fail
  refine (HSM0.out _ (HG.out.trans HG0.out)).mono ?_
  rintro e w1 ⟨rfl, g1⟩
  have HG1 := Lib.hid (HG0.out.trans g1); clear g1 a0 a1 a2 a3 b0 b1 b2 b3 c0 c1 c2 c3
  obtain ⟨⟨a0, a1, a2, a3⟩, ⟨b0, b1, b2, b3⟩, ⟨c0, c1, c2, c3⟩⟩ := HBX.out _ HG1.out
  obtain ⟨B, hB⟩ : ∃ B, smallB 0 n0 [] L0 = B := ⟨_, rfl⟩
  rw [hB]
  cases B with
  | false =>
    clear hB
    go_wp2_with fail
    go_ret
    exact ⟨rfl, HG.out.trans HG1.out⟩
  | true =>
  have F0 := Lib.hid hB; clear hB
  go_wp2_with fail
  refine (HSM1.out _ (HG.out.trans HG1.out)).mono ?_
  rintro e w2 ⟨rfl, g2⟩
  have HG2 := Lib.hid (HG1.out.trans g2); clear g2 a0 a1 a2 a3 b0 b1 b2 b3 c0 c1 c2 c3
  obtain ⟨⟨a0, a1, a2, a3⟩, ⟨b0, b1, b2, b3⟩, ⟨c0, c1, c2, c3⟩⟩ := HBX.out _ HG2.out
  obtain ⟨B, hB⟩ : ∃ B, smallB 0 n1 [] L1 = B := ⟨_, rfl⟩
  rw [hB]
  cases B with
  | false =>
    clear hB
    go_wp2_with fail
    go_ret
    exact ⟨rfl, HG.out.trans HG2.out⟩
  | true =>
  have F1 := Lib.hid hB; clear hB
  go_wp2_with fail
  refine (HSM2.out _ (HG.out.trans HG2.out)).mono ?_
  rintro e w3 ⟨rfl, g3⟩
  have HG3 := Lib.hid (HG2.out.trans g3); clear g3 a0 a1 a2 a3 b0 b1 b2 b3 c0 c1 c2 c3
  obtain ⟨⟨a0, a1, a2, a3⟩, ⟨b0, b1, b2, b3⟩, ⟨c0, c1, c2, c3⟩⟩ := HBX.out _ HG3.out
  obtain ⟨B, hB⟩ : ∃ B, smallB 0 n2 [] L2 = B := ⟨_, rfl⟩
  rw [hB]
  cases B with
  | false =>
    clear hB
    go_wp2_with fail
    go_ret
    exact ⟨rfl, HG.out.trans HG3.out⟩
  | true =>
  have F2 := Lib.hid hB; clear hB
  go_wp2_with fail
  refine (HLO0.out _).mono ?_
  rintro e w4 ⟨rfl, g4⟩
  have HG4 := Lib.hid (HG3.out.trans g4); clear g4 a0 a1 a2 a3 b0 b1 b2 b3 c0 c1 c2 c3
  obtain ⟨⟨a0, a1, a2, a3⟩, ⟨b0, b1, b2, b3⟩, ⟨c0, c1, c2, c3⟩⟩ := HBX.out _ HG4.out
  obtain ⟨B, hB⟩ : ∃ B, loopedB k0 lp0 = B := ⟨_, rfl⟩
  rw [hB]
  cases B with
  | false =>
    clear hB
    go_wp2_with fail
    go_ret
    exact ⟨rfl, HG.out.trans HG4.out⟩
  | true =>
  have B0 := Lib.hid hB; clear hB
  go_wp2_with fail
  refine (HLO1.out _).mono ?_
  rintro e w5 ⟨rfl, g5⟩
  have HG5 := Lib.hid (HG4.out.trans g5); clear g5 a0 a1 a2 a3 b0 b1 b2 b3 c0 c1 c2 c3
  obtain ⟨⟨a0, a1, a2, a3⟩, ⟨b0, b1, b2, b3⟩, ⟨c0, c1, c2, c3⟩⟩ := HBX.out _ HG5.out
  obtain ⟨B, hB⟩ : ∃ B, loopedB k1 lp1 = B := ⟨_, rfl⟩
  rw [hB]
  cases B with
  | false =>
    clear hB
    go_wp2_with fail
    go_ret
    exact ⟨rfl, HG.out.trans HG5.out⟩
  | true =>
  have B1 := Lib.hid hB; clear hB
  go_wp2_with fail
  refine (HLO2.out _).mono ?_
  rintro e w6 ⟨rfl, g6⟩
  have HG6 := Lib.hid (HG5.out.trans g6); clear g6 a0 a1 a2 a3 b0 b1 b2 b3 c0 c1 c2 c3
  obtain ⟨⟨a0, a1, a2, a3⟩, ⟨b0, b1, b2, b3⟩, ⟨c0, c1, c2, c3⟩⟩ := HBX.out _ HG6.out
  obtain ⟨B, hB⟩ : ∃ B, loopedB k2 lp2 = B := ⟨_, rfl⟩
  rw [hB]
  cases B with
  | false =>
    clear hB
    go_wp2_with fail
    go_ret
    exact ⟨rfl, HG.out.trans HG6.out⟩
  | true =>
  have B2 := Lib.hid hB; clear hB
  obtain ⟨hk10, hk640, hlp00, hlpk0⟩ := loopedB_iff.1 B0.out
  have HS0 := Lib.hid (And.intro (smallB_iff.1 F0.out).1.2.2.2 (small_facts F0.out).2)
  obtain ⟨p0, rfl⟩ : ∃ p : Nat, lp0 = (p : Int) := ⟨lp0.toNat, (Int.toNat_of_nonneg hlp00).symm⟩
  have HP0 : Hid (p0 < L0.length) := Lib.hid (by rw [HN0.out.2.1]; omega)
  obtain ⟨hk11, hk641, hlp01, hlpk1⟩ := loopedB_iff.1 B1.out
  have HS1 := Lib.hid (And.intro (smallB_iff.1 F1.out).1.2.2.2 (small_facts F1.out).2)
  obtain ⟨p1, rfl⟩ : ∃ p : Nat, lp1 = (p : Int) := ⟨lp1.toNat, (Int.toNat_of_nonneg hlp01).symm⟩
  have HP1 : Hid (p1 < L1.length) := Lib.hid (by rw [HN1.out.2.1]; omega)
  obtain ⟨hk12, hk642, hlp02, hlpk2⟩ := loopedB_iff.1 B2.out
  have HS2 := Lib.hid (And.intro (smallB_iff.1 F2.out).1.2.2.2 (small_facts F2.out).2)
  obtain ⟨p2, rfl⟩ : ∃ p : Nat, lp2 = (p : Int) := ⟨lp2.toNat, (Int.toNat_of_nonneg hlp02).symm⟩
  have HP2 : Hid (p2 < L2.length) := Lib.hid (by rw [HN2.out.2.1]; omega)
  have HT01 := Lib.hid (fun (W' : World) (g : w6.grownBy W' none) => by
    have gg := HG.out.trans (HG6.out.trans g)
    have h := sameTrace_calls us0 us1 sa0 sa1 sc0 sc1 st0 st1 p0 p1 L0 L1 ta0 ta1 tc0 tc1 W' (HN0.out.2.2.1.grown gg).weak (HN1.out.2.2.1.grown gg).weak (HN0.out.2.2.2.grown gg) (HN1.out.2.2.2.grown gg)
      (by have := HN0.out.1; have := HS0.out.1; omega) (small_lens (by rw [HN0.out.2.1]; exact hk640) HS0.out.2) (by rw [HN0.out.2.1]; exact B0.out) (by rw [HN1.out.2.1]; exact B1.out)
    rw [show (decide (us0 = us1) && agreeTo L0 L1 p0 p1 (timesN L0.length L1.length p0 p1)) = sameB us0 us1 L0 L1 p0 p1 from rfl, HN0.out.1, HN0.out.2.1, HN1.out.1, HN1.out.2.1] at h
    exact h)
  have HT12 := Lib.hid (fun (W' : World) (g : w6.grownBy W' none) => by
    have gg := HG.out.trans (HG6.out.trans g)
    have h := sameTrace_calls us1 us2 sa1 sa2 sc1 sc2 st1 st2 p1 p2 L1 L2 ta1 ta2 tc1 tc2 W' (HN1.out.2.2.1.grown gg).weak (HN2.out.2.2.1.grown gg).weak (HN1.out.2.2.2.grown gg) (HN2.out.2.2.2.grown gg)
      (by have := HN1.out.1; have := HS1.out.1; omega) (small_lens (by rw [HN1.out.2.1]; exact hk641) HS1.out.2) (by rw [HN1.out.2.1]; exact B1.out) (by rw [HN2.out.2.1]; exact B2.out)
    rw [show (decide (us1 = us2) && agreeTo L1 L2 p1 p2 (timesN L1.length L2.length p1 p2)) = sameB us1 us2 L1 L2 p1 p2 from rfl, HN1.out.1, HN1.out.2.1, HN2.out.1, HN2.out.2.1] at h
    exact h)
  have HT02 := Lib.hid (fun (W' : World) (g : w6.grownBy W' none) => by
    have gg := HG.out.trans (HG6.out.trans g)
    have h := sameTrace_calls us0 us2 sa0 sa2 sc0 sc2 st0 st2 p0 p2 L0 L2 ta0 ta2 tc0 tc2 W' (HN0.out.2.2.1.grown gg).weak (HN2.out.2.2.1.grown gg).weak (HN0.out.2.2.2.grown gg) (HN2.out.2.2.2.grown gg)
      (by have := HN0.out.1; have := HS0.out.1; omega) (small_lens (by rw [HN0.out.2.1]; exact hk640) HS0.out.2) (by rw [HN0.out.2.1]; exact B0.out) (by rw [HN2.out.2.1]; exact B2.out)
    rw [show (decide (us0 = us2) && agreeTo L0 L2 p0 p2 (timesN L0.length L2.length p0 p2)) = sameB us0 us2 L0 L2 p0 p2 from rfl, HN0.out.1, HN0.out.2.1, HN2.out.1, HN2.out.2.1] at h
    exact h)
  have HT00 := Lib.hid (fun (W' : World) (g : w6.grownBy W' none) => by
    have gg := HG.out.trans (HG6.out.trans g)
    have h := sameTrace_calls us0 us0 sa0 sa0 sc0 sc0 st0 st0 p0 p0 L0 L0 ta0 ta0 tc0 tc0 W' (HN0.out.2.2.1.grown gg).weak (HN0.out.2.2.1.grown gg).weak (HN0.out.2.2.2.grown gg) (HN0.out.2.2.2.grown gg)
      (by have := HN0.out.1; have := HS0.out.1; omega) (small_lens (by rw [HN0.out.2.1]; exact hk640) HS0.out.2) (by rw [HN0.out.2.1]; exact B0.out) (by rw [HN0.out.2.1]; exact B0.out)
    rw [show (decide (us0 = us0) && agreeTo L0 L0 p0 p0 (timesN L0.length L0.length p0 p0)) = sameB us0 us0 L0 L0 p0 p0 from rfl, HN0.out.1, HN0.out.2.1] at h
    exact h)
  have HT10 := Lib.hid (fun (W' : World) (g : w6.grownBy W' none) => by
    have gg := HG.out.trans (HG6.out.trans g)
    have h := sameTrace_calls us1 us0 sa1 sa0 sc1 sc0 st1 st0 p1 p0 L1 L0 ta1 ta0 tc1 tc0 W' (HN1.out.2.2.1.grown gg).weak (HN0.out.2.2.1.grown gg).weak (HN1.out.2.2.2.grown gg) (HN0.out.2.2.2.grown gg)
      (by have := HN1.out.1; have := HS1.out.1; omega) (small_lens (by rw [HN1.out.2.1]; exact hk641) HS1.out.2) (by rw [HN1.out.2.1]; exact B1.out) (by rw [HN0.out.2.1]; exact B0.out)
    rw [show (decide (us1 = us0) && agreeTo L1 L0 p1 p0 (timesN L1.length L0.length p1 p0)) = sameB us1 us0 L1 L0 p1 p0 from rfl, HN1.out.1, HN1.out.2.1, HN0.out.1, HN0.out.2.1] at h
    exact h)
  have HSH0 := Lib.hid (fun (W' : World) (g : w6.grownBy W' none) => by
    have gg := HG.out.trans (HG6.out.trans g)
    have h := shorten_calls us0 sa0 sc0 st0 ta0 L0 tc0 p0 W' (HN0.out.2.2.1.grown gg).weak (HN0.out.2.2.2.grown gg) (by have := HN0.out.1; have := HS0.out.1; omega) HP0.out (by rw [HN0.out.2.1]; exact hk640) HS0.out.2
    rw [HN0.out.1, HN0.out.2.1] at h
    exact h)
  have HSH1 := Lib.hid (fun (W' : World) (g : w6.grownBy W' none) => by
    have gg := HG.out.trans (HG6.out.trans g)
    have h := shorten_calls us1 sa1 sc1 st1 ta1 L1 tc1 p1 W' (HN1.out.2.2.1.grown gg).weak (HN1.out.2.2.2.grown gg) (by have := HN1.out.1; have := HS1.out.1; omega) HP1.out (by rw [HN1.out.2.1]; exact hk641) HS1.out.2
    rw [HN1.out.1, HN1.out.2.1] at h
    exact h)
  have hsz0 := sh_sts_small HP0.out HS0.out.2
  have hsl0 : (shSts L0 p0).length ≤ 64 := by rw [sh_len]; have := sh_loop_le HP0.out; have := sh_per_le HP0.out; have := HP0.out; have := HN0.out.2.1; omega
  have HLS := Lib.hid (small_lens hsl0 hsz0); clear hsz0 hsl0
  have HREQ := Lib.hid (fun (x x' y y' : Option Addr) (c c' d d' : Nat) (W' : World) (h : Ints W' x c us0) (h' : Ints W' x' c' us1) (k : Sts W' y d (shSts L0 p0)) (k' : Sts W' y' d' (shSts L1 p1)) => by
    have h := rEqual_calls us0 us1 x x' c c' (shLoop L0 p0 + shPer L0 p0 : Nat) (shLoop L1 p1 + shPer L1 p1 : Nat) (shLoop L0 p0 : Nat) (shLoop L1 p1 : Nat) (shSts L0 p0) (shSts L1 p1) y y' d d' W' h.weak h'.weak k k' (by have := HN0.out.1; have := HS0.out.1; omega) HLS.out
    rw [sameB_short HP0.out HP1.out, HN0.out.1, HN1.out.1] at h
    exact h)
  have HEQ := Lib.hid (fun (W' : World) (g : w6.grownBy W' none) => by
    have gg := HG.out.trans (HG6.out.trans g)
    have h := modelEqual_calls us0 us1 sa0 sa1 sc0 sc1 st0 st1 p0 p1 L0 L1 ta0 ta1 tc0 tc1 W' (HN0.out.2.2.1.grown gg).weak (HN1.out.2.2.1.grown gg).weak (HN0.out.2.2.2.grown gg) (HN1.out.2.2.2.grown gg) (by have := HN0.out.1; have := HS0.out.1; omega) (small_lens (by rw [HN0.out.2.1]; exact hk640) HS0.out.2)
    rw [HN0.out.1, HN0.out.2.1, HN1.out.1, HN1.out.2.1] at h
    exact h)
  obtain ⟨N0, hN0⟩ : ∃ N, shLoop L0 p0 + shPer L0 p0 = N := ⟨_, rfl⟩
  obtain ⟨N1, hN1⟩ : ∃ N, shLoop L1 p1 + shPer L1 p1 = N := ⟨_, rfl⟩
  obtain ⟨m0, hm0⟩ : ∃ N, (shSts L0 p0).length = N := ⟨_, rfl⟩
  obtain ⟨m1, hm1⟩ : ∃ N, (shSts L1 p1).length = N := ⟨_, rfl⟩
  obtain ⟨q0, hq0⟩ : ∃ N, shLoop L0 p0 = N := ⟨_, rfl⟩
  obtain ⟨q1, hq1⟩ : ∃ N, shLoop L1 p1 = N := ⟨_, rfl⟩
  rw [hN0, hm0, hq0] at HSH0
  rw [hN1, hm1, hq1] at HSH1
  rw [hN0, hN1, hm0, hm1, hq0, hq1] at HREQ
  clear hN0 hN1 hm0 hm1 hq0 hq1
  obtain ⟨X, hX⟩ : ∃ X, sameB us0 us1 L0 L1 p0 p1 = X := ⟨_, rfl⟩
  obtain ⟨Y, hY⟩ : ∃ Y, sameB us1 us2 L1 L2 p1 p2 = Y := ⟨_, rfl⟩
  obtain ⟨Z, hZ⟩ : ∃ Z, sameB us0 us2 L0 L2 p0 p2 = Z := ⟨_, rfl⟩
  obtain ⟨E, hE⟩ : ∃ E, modelEq us0 us1 st0 st1 p0 p1 L0 L1 = E := ⟨_, rfl⟩
  have hXYZ : ¬ (X = true ∧ Y = true ∧ Z = false) := by
    rintro ⟨e1, e2, e3⟩
    have := sameB_trans HP0.out HP1.out HP2.out (hX.trans e1) (hY.trans e2)
    rw [hZ, e3] at this
    cases this
  have hEX : ¬ (E = true ∧ X = false) := by
    rintro ⟨e1, e2⟩
    have := sameB_of_eq HP0.out HP1.out (hE.trans e1)
    rw [hX, e2] at this
    cases this
  rw [hX] at HT01 HREQ
  rw [hY] at HT12
  rw [hZ] at HT02
  rw [sameB_refl HP0.out] at HT00
  rw [sameB_symm HP1.out HP0.out, hX] at HT10
  rw [hE] at HEQ
  clear hX hY hZ hE
  have HX := Lib.hid (And.intro hXYZ hEX); clear hXYZ hEX
  go_wp2_with fail
  go_region_held3 (fun w' : World => w6.grownBy w' none ∧ w'.cell? ⟨w.heap.size, 0, none⟩ = some (.slice sa0 n0 sc0) ∧ w'.cell? ⟨w.heap.size, 1, none⟩ = some (.int .i64 st0) ∧ w'.cell? ⟨w.heap.size, 2, none⟩ = some (.slice ta0 k0 tc0) ∧ w'.cell? ⟨w.heap.size, 3, none⟩ = some (.int .i64 p0) ∧ w'.cell? ⟨w.heap.size + 1, 0, none⟩ = some (.slice sa1 n1 sc1) ∧ w'.cell? ⟨w.heap.size + 1, 1, none⟩ = some (.int .i64 st1) ∧ w'.cell? ⟨w.heap.size + 1, 2, none⟩ = some (.slice ta1 k1 tc1) ∧ w'.cell? ⟨w.heap.size + 1, 3, none⟩ = some (.int .i64 p1) ∧ w'.cell? ⟨w.heap.size + 1 + 1, 0, none⟩ = some (.slice sa2 n2 sc2) ∧ w'.cell? ⟨w.heap.size + 1 + 1, 1, none⟩ = some (.int .i64 st2) ∧ w'.cell? ⟨w.heap.size + 1 + 1, 2, none⟩ = some (.slice ta2 k2 tc2) ∧ w'.cell? ⟨w.heap.size + 1 + 1, 3, none⟩ = some (.int .i64 p2))
    (first | exact ⟨⟨rfl, rfl, rfl, Nat.le_refl _, fun _ _ _ => rfl⟩, a0, a1, a2, a3, b0, b1, b2, b3, c0, c1, c2, c3⟩ | (go_split_ands; exact held_next12 g3 (by assumption) (by assumption) (by assumption) (by assumption) (by assumption) (by assumption) (by assumption) (by assumption) (by assumption) (by assumption) (by assumption) (by assumption) (by assumption)) | assumption | fail)
    (first | (go_at_call 28; with_reducible refine (HT01.out _ ?_).mono ?_; (go_split_ands; assumption); rintro e u1 ⟨rfl, g3⟩) | (go_at_call 28; with_reducible refine (HT12.out _ ?_).mono ?_; (go_split_ands; assumption); rintro e u2 ⟨rfl, g3⟩) | (go_at_call 28; with_reducible refine (HT02.out _ ?_).mono ?_; (go_split_ands; assumption); rintro e u3 ⟨rfl, g3⟩) | fail)
  have h7 : w6.grownBy u3 none := by go_split_ands; assumption
  have HG7 := Lib.hid h7; clear h7 a0 a1 a2 a3 b0 b1 b2 b3 c0 c1 c2 c3
  obtain ⟨⟨a0, a1, a2, a3⟩, ⟨b0, b1, b2, b3⟩, ⟨c0, c1, c2, c3⟩⟩ := HBX.out _ (HG6.out.trans HG7.out)
  have HG7' := Lib.hid (HG6.out.trans HG7.out)
  go_wp2_with fail
  refine (HT00.out _ HG7.out).mono ?_
  rintro e u4 ⟨rfl, g8⟩
  have HG8 := Lib.hid (HG7.out.trans g8); clear g8
  clear a0 a1 a2 a3 b0 b1 b2 b3 c0 c1 c2 c3
  obtain ⟨⟨a0, a1, a2, a3⟩, ⟨b0, b1, b2, b3⟩, ⟨c0, c1, c2, c3⟩⟩ := HBX.out _ (HG6.out.trans HG8.out)
  go_wp2_with fail
  refine (HT10.out _ HG8.out).mono ?_
  rintro e u5 ⟨rfl, g9⟩
  have HG9 := Lib.hid (HG8.out.trans g9); clear g9
  clear a0 a1 a2 a3 b0 b1 b2 b3 c0 c1 c2 c3
  obtain ⟨⟨a0, a1, a2, a3⟩, ⟨b0, b1, b2, b3⟩, ⟨c0, c1, c2, c3⟩⟩ := HBX.out _ (HG6.out.trans HG9.out)
  have hx1 := HX.out.1
  have hx2 := HX.out.2
  cases E with
  | false =>
    clear hx2
    cases X <;> cases Y <;> cases Z <;> first | (exfalso; revert hx1; decide) | clear hx1
    all_goals
      go_wp2_with fail
      have HS := Lib.hid (fun (W : World) (hW : u5.grownBy W none) => (⟨hW, hW.cell a0 (by simp), hW.cell a1 (by simp), hW.cell a2 (by simp), hW.cell a3 (by simp), hW.cell b0 (by simp), hW.cell b1 (by simp), hW.cell b2 (by simp), hW.cell b3 (by simp), hW.cell c0 (by simp), hW.cell c1 (by simp), hW.cell c2 (by simp), hW.cell c3 (by simp)⟩ : (fun w' : World => u5.grownBy w' none ∧ w'.cell? ⟨w.heap.size, 0, none⟩ = some (.slice sa0 n0 sc0) ∧ w'.cell? ⟨w.heap.size, 1, none⟩ = some (.int .i64 st0) ∧ w'.cell? ⟨w.heap.size, 2, none⟩ = some (.slice ta0 k0 tc0) ∧ w'.cell? ⟨w.heap.size, 3, none⟩ = some (.int .i64 p0) ∧ w'.cell? ⟨w.heap.size + 1, 0, none⟩ = some (.slice sa1 n1 sc1) ∧ w'.cell? ⟨w.heap.size + 1, 1, none⟩ = some (.int .i64 st1) ∧ w'.cell? ⟨w.heap.size + 1, 2, none⟩ = some (.slice ta1 k1 tc1) ∧ w'.cell? ⟨w.heap.size + 1, 3, none⟩ = some (.int .i64 p1) ∧ w'.cell? ⟨w.heap.size + 1 + 1, 0, none⟩ = some (.slice sa2 n2 sc2) ∧ w'.cell? ⟨w.heap.size + 1 + 1, 1, none⟩ = some (.int .i64 st2) ∧ w'.cell? ⟨w.heap.size + 1 + 1, 2, none⟩ = some (.slice ta2 k2 tc2) ∧ w'.cell? ⟨w.heap.size + 1 + 1, 3, none⟩ = some (.int .i64 p2)) W))
      clear a0 a1 a2 a3 b0 b1 b2 b3 c0 c1 c2 c3
      have hdr : u5.grownBy u5.drew none := ⟨rfl, rfl, rfl, Nat.le_refl _, fun _ _ _ => rfl⟩
      refine wp_region_held_drew (S := (fun w' : World => u5.grownBy w' none ∧ w'.cell? ⟨w.heap.size, 0, none⟩ = some (.slice sa0 n0 sc0) ∧ w'.cell? ⟨w.heap.size, 1, none⟩ = some (.int .i64 st0) ∧ w'.cell? ⟨w.heap.size, 2, none⟩ = some (.slice ta0 k0 tc0) ∧ w'.cell? ⟨w.heap.size, 3, none⟩ = some (.int .i64 p0) ∧ w'.cell? ⟨w.heap.size + 1, 0, none⟩ = some (.slice sa1 n1 sc1) ∧ w'.cell? ⟨w.heap.size + 1, 1, none⟩ = some (.int .i64 st1) ∧ w'.cell? ⟨w.heap.size + 1, 2, none⟩ = some (.slice ta1 k1 tc1) ∧ w'.cell? ⟨w.heap.size + 1, 3, none⟩ = some (.int .i64 p1) ∧ w'.cell? ⟨w.heap.size + 1 + 1, 0, none⟩ = some (.slice sa2 n2 sc2) ∧ w'.cell? ⟨w.heap.size + 1 + 1, 1, none⟩ = some (.int .i64 st2) ∧ w'.cell? ⟨w.heap.size + 1 + 1, 2, none⟩ = some (.slice ta2 k2 tc2) ∧ w'.cell? ⟨w.heap.size + 1 + 1, 3, none⟩ = some (.int .i64 p2))) (by kernel_rfl) (HS.out _ hdr) (fun hHeld => ?_)
      refine wpAnyH_take (i := 0) (oi := { dst := some 74, op := Op.move (Operand.tmp 7), type := 4, pos := "law.go:81", after := #[], guard := none }) (v := ?_) rfl (by kernel_rfl) (by kernel_rfl) (by kernel_rfl) (fun _ _ _ h => h) (Or.inl ⟨by rfl, ?_⟩) (by assumption) ?_
      rotate_left 1
      · (intro W hSW; (try dsimp only at hSW); first | (go_simp; done) | (go_simp; with_reducible rfl))
      try simp only [Act.put, List.setIfInBounds_toArray, List.set_cons_zero, List.set_cons_succ]
      refine wpAnyH_take (i := 1) (oi := { dst := some 75, op := Op.move (Operand.tmp 74), type := 4, pos := "law.go:81", after := #[{ on := 0, ground := Ground.data }], guard := none }) (v := ?_) rfl (by kernel_rfl) (by kernel_rfl) (by kernel_rfl) (fun _ _ _ h => h) (Or.inl ⟨by rfl, ?_⟩) (by assumption) ?_
      rotate_left 1
      · (intro W hSW; (try dsimp only at hSW); first | (go_simp; done) | (go_simp; with_reducible rfl))
      try simp only [Act.put, List.setIfInBounds_toArray, List.set_cons_zero, List.set_cons_succ]
      refine wpAnyH_take (i := 2) (oi := { dst := some 76, op := Op.move (Operand.tmp 8), type := 4, pos := "law.go:81", after := #[{ on := 1, ground := Ground.guard }], guard := some (1, true) }) (v := ?_) rfl (by kernel_rfl) (by kernel_rfl) (by kernel_rfl) (fun _ _ _ h => h) (Or.inl ⟨by rfl, ?_⟩) (by assumption) ?_
      rotate_left 1
      · (intro W hSW; (try dsimp only at hSW); first | (go_simp; done) | (go_simp; with_reducible rfl))
      try simp only [Act.put, List.setIfInBounds_toArray, List.set_cons_zero, List.set_cons_succ]
      refine wpAnyH_take (i := 3) (oi := { dst := some 77, op := Op.load 33 (Operand.tmp 3), type := 33, pos := "law.go:81", after := #[{ on := 1, ground := Ground.guard }], guard := some (1, true) }) (v := ?_) rfl (by kernel_rfl) (by kernel_rfl) (by kernel_rfl) (fun _ _ _ h => h) (Or.inl ⟨by rfl, ?_⟩) (by assumption) ?_
      rotate_left 1
      · (intro W hSW; (try dsimp only at hSW); first | (go_simp; done) | (go_simp; with_reducible rfl))
      try simp only [Act.put, List.setIfInBounds_toArray, List.set_cons_zero, List.set_cons_succ]
      refine wpAnyH_take (i := 5) (oi := { dst := some 79, op := Op.load 33 (Operand.tmp 4), type := 33, pos := "law.go:81", after := #[{ on := 1, ground := Ground.guard }], guard := some (1, true) }) (v := ?_) rfl (by kernel_rfl) (by kernel_rfl) (by kernel_rfl) (fun _ _ _ h => h) (Or.inl ⟨by rfl, ?_⟩) (by assumption) ?_
      rotate_left 1
      · (intro W hSW; (try dsimp only at hSW); first | (go_simp; done) | (go_simp; with_reducible rfl))
      try simp only [Act.put, List.setIfInBounds_toArray, List.set_cons_zero, List.set_cons_succ]
      refine wpAnyH_ready (rs := [4]) (by kernel_rfl) (by simp) ?_
      refine AllReadyH.cons (o := { dst := some 78, op := Op.call { callee := Callee.value (Operand.func 30), args := #[Operand.tmp 77], argTypes := #[33] }, type := 33, pos := "law.go:81", after := #[{ on := 3, ground := Ground.data }, { on := 1, ground := Ground.chain }, { on := 1, ground := Ground.guard }], guard := some (1, true) }) rfl (fun K hK => ?_) AllReadyH.nil
      go_simp
      go_at_call 30
      refine (HSH0.out _ (HG9.out.trans hdr)).mono ?_
      rintro e wc1 ⟨i1, d1, j1, e1, rfl, hs1, gc1⟩
      have HA1 := Lib.hid hs1.here; clear hs1
      go_wp2_with fail
      have hgr1 := World.grownBy.trans hdr gc1
      refine hK.out _ _ (HS.out _ hgr1) (fun hHeld => ?_)
      clear hK K
      try simp only [Act.put, List.setIfInBounds_toArray, List.set_cons_zero, List.set_cons_succ]
      refine wpAnyH_ready (rs := [6]) (by kernel_rfl) (by simp) ?_
      refine AllReadyH.cons (o := { dst := some 80, op := Op.call { callee := Callee.value (Operand.func 30), args := #[Operand.tmp 79], argTypes := #[33] }, type := 33, pos := "law.go:81", after := #[{ on := 5, ground := Ground.data }, { on := 4, ground := Ground.chain }, { on := 1, ground := Ground.guard }], guard := some (1, true) }) rfl (fun K hK => ?_) AllReadyH.nil
      go_simp
      go_at_call 30
      refine (HSH1.out _ (HG9.out.trans hgr1)).mono ?_
      rintro e wc2 ⟨i2, d2, j2, e2, rfl, hs2, gc2⟩
      have HA2 := Lib.hid (And.intro (And.intro (HA1.out.1.grown gc2) (HA1.out.2.grown gc2)) hs2.here); clear hs2
      go_wp2_with fail
      have hgr2 := World.grownBy.trans hgr1 gc2
      refine hK.out _ _ (HS.out _ hgr2) (fun hHeld => ?_)
      clear hK K
      try simp only [Act.put, List.setIfInBounds_toArray, List.set_cons_zero, List.set_cons_succ]
      refine wpAnyH_ready (rs := [7]) (by kernel_rfl) (by simp) ?_
      refine AllReadyH.cons (o := { dst := some 81, op := Op.call { callee := Callee.value (Operand.func 21), args := #[Operand.tmp 78, Operand.tmp 80], argTypes := #[33, 33] }, type := 4, pos := "law.go:81", after := #[{ on := 4, ground := Ground.data }, { on := 6, ground := Ground.data }, { on := 6, ground := Ground.chain }, { on := 1, ground := Ground.guard }], guard := some (1, true) }) rfl (fun K hK => ?_) AllReadyH.nil
      go_simp
      go_at_call 21
      refine (HREQ.out _ _ _ _ _ _ _ _ _ HA2.out.1.1 HA2.out.2.1 HA2.out.1.2 HA2.out.2.2).mono ?_
      rintro e wc3 ⟨rfl, gc3⟩
      go_wp2_with fail
      have hgr3 := World.grownBy.trans hgr2 gc3
      refine hK.out _ _ (HS.out _ hgr3) (fun hHeld => ?_)
      clear hK K
      try simp only [Act.put, List.setIfInBounds_toArray, List.set_cons_zero, List.set_cons_succ]
      refine wpAnyH_take (i := 8) (oi := { dst := some 82, op := Op.binOp BinOp.eql 4 (Operand.tmp 76) (Operand.tmp 81) 4, type := 4, pos := "law.go:81", after := #[{ on := 2, ground := Ground.data }, { on := 7, ground := Ground.data }, { on := 1, ground := Ground.guard }], guard := some (1, true) }) (v := ?_) rfl (by kernel_rfl) (by kernel_rfl) (by kernel_rfl) (fun _ _ _ h => h) (Or.inl ⟨by rfl, ?_⟩) (by assumption) ?_
      rotate_left 1
      · (intro W hSW; (try dsimp only at hSW); first | (go_simp; done) | (go_simp; with_reducible rfl))
      try simp only [Act.put, List.setIfInBounds_toArray, List.set_cons_zero, List.set_cons_succ]
      refine wpAnyH_take (i := 9) (oi := { dst := some 83, op := Op.pick (Operand.tmp 75) (Operand.tmp 82) (Operand.const (Value.bool false)), type := 4, pos := "law.go:81", after := #[{ on := 1, ground := Ground.data }, { on := 8, ground := Ground.data }], guard := none }) (v := ?_) rfl (by kernel_rfl) (by kernel_rfl) (by kernel_rfl) (fun _ _ _ h => h) (Or.inl ⟨by rfl, ?_⟩) (by assumption) ?_
      rotate_left 1
      · (intro W hSW; (try dsimp only at hSW); first | (go_simp; done) | (go_simp; with_reducible rfl))
      try simp only [Act.put, List.setIfInBounds_toArray, List.set_cons_zero, List.set_cons_succ]
      refine wpAnyH_take (i := 10) (oi := { dst := some 84, op := Op.move (Operand.tmp 83), type := 4, pos := "law.go:81", after := #[{ on := 9, ground := Ground.data }, { on := 7, ground := Ground.chain }], guard := none }) (v := ?_) rfl (by kernel_rfl) (by kernel_rfl) (by kernel_rfl) (fun _ _ _ h => h) (Or.inl ⟨by rfl, ?_⟩) (by assumption) ?_
      rotate_left 1
      · (intro W hSW; (try dsimp only at hSW); first | (go_simp; done) | (go_simp; with_reducible rfl))
      try simp only [Act.put, List.setIfInBounds_toArray, List.set_cons_zero, List.set_cons_succ]
      refine wpAnyH_take (i := 11) (oi := { dst := some 85, op := Op.load 33 (Operand.tmp 3), type := 33, pos := "law.go:81", after := #[{ on := 10, ground := Ground.guard }], guard := some (10, true) }) (v := ?_) rfl (by kernel_rfl) (by kernel_rfl) (by kernel_rfl) (fun _ _ _ h => h) (Or.inl ⟨by rfl, ?_⟩) (by assumption) ?_
      rotate_left 1
      · (intro W hSW; (try dsimp only at hSW); first | (go_simp; done) | (go_simp; with_reducible rfl))
      try simp only [Act.put, List.setIfInBounds_toArray, List.set_cons_zero, List.set_cons_succ]
      refine wpAnyH_take (i := 12) (oi := { dst := some 86, op := Op.load 33 (Operand.tmp 4), type := 33, pos := "law.go:81", after := #[{ on := 10, ground := Ground.guard }], guard := some (10, true) }) (v := ?_) rfl (by kernel_rfl) (by kernel_rfl) (by kernel_rfl) (fun _ _ _ h => h) (Or.inl ⟨by rfl, ?_⟩) (by assumption) ?_
      rotate_left 1
      · (intro W hSW; (try dsimp only at hSW); first | (go_simp; done) | (go_simp; with_reducible rfl))
      try simp only [Act.put, List.setIfInBounds_toArray, List.set_cons_zero, List.set_cons_succ]
      refine wpAnyH_ready (rs := [13]) (by kernel_rfl) (by simp) ?_
      refine AllReadyH.cons (o := { dst := some 87, op := Op.call { callee := Callee.value (Operand.func 20), args := #[Operand.tmp 85, Operand.tmp 86], argTypes := #[33, 33] }, type := 4, pos := "law.go:81", after := #[{ on := 11, ground := Ground.data }, { on := 12, ground := Ground.data }, { on := 10, ground := Ground.chain }, { on := 10, ground := Ground.guard }], guard := some (10, true) }) rfl (fun K hK => ?_) AllReadyH.nil
      go_simp
      go_at_call 20
      refine (HEQ.out _ (HG9.out.trans hgr3)).mono ?_
      rintro e wc4 ⟨rfl, gc4⟩
      go_wp2_with fail
      have hgr4 := World.grownBy.trans hgr3 gc4
      refine hK.out _ _ (HS.out _ hgr4) (fun hHeld => ?_)
      clear hK K
      try simp only [Act.put, List.setIfInBounds_toArray, List.set_cons_zero, List.set_cons_succ]
      refine wpAnyH_take (i := 14) (oi := { dst := some 88, op := Op.unOp UnOp.not 4 (Operand.tmp 87), type := 4, pos := "law.go:81", after := #[{ on := 13, ground := Ground.data }, { on := 10, ground := Ground.guard }], guard := some (10, true) }) (v := ?_) rfl (by kernel_rfl) (by kernel_rfl) (by kernel_rfl) (fun _ _ _ h => h) (Or.inl ⟨by rfl, ?_⟩) (by assumption) ?_
      rotate_left 1
      · (intro W hSW; (try dsimp only at hSW); first | (go_simp; done) | (go_simp; with_reducible rfl))
      try simp only [Act.put, List.setIfInBounds_toArray, List.set_cons_zero, List.set_cons_succ]
      refine wpAnyH_take (i := 15) (oi := { dst := some 89, op := Op.move (Operand.tmp 88), type := 4, pos := "law.go:81", after := #[{ on := 14, ground := Ground.data }, { on := 13, ground := Ground.chain }, { on := 10, ground := Ground.guard }], guard := some (10, true) }) (v := ?_) rfl (by kernel_rfl) (by kernel_rfl) (by kernel_rfl) (fun _ _ _ h => h) (Or.inl ⟨by rfl, ?_⟩) (by assumption) ?_
      rotate_left 1
      · (intro W hSW; (try dsimp only at hSW); first | (go_simp; done) | (go_simp; with_reducible rfl))
      try simp only [Act.put, List.setIfInBounds_toArray, List.set_cons_zero, List.set_cons_succ]
      refine wpAnyH_take (i := 16) (oi := { dst := some 90, op := Op.move (Operand.tmp 8), type := 4, pos := "law.go:81", after := #[{ on := 15, ground := Ground.guard }], guard := some (15, false) }) (v := undef) rfl (by kernel_rfl) (by kernel_rfl) (by kernel_rfl) (fun _ _ _ h => h) (Or.inr ⟨by rfl, rfl⟩) (by assumption) ?_
      try simp only [Act.put, List.setIfInBounds_toArray, List.set_cons_zero, List.set_cons_succ]
      refine wpAnyH_take (i := 17) (oi := { dst := some 91, op := Op.pick (Operand.tmp 89) (Operand.const (Value.bool true)) (Operand.tmp 90), type := 4, pos := "law.go:81", after := #[{ on := 15, ground := Ground.data }, { on := 16, ground := Ground.data }, { on := 10, ground := Ground.guard }], guard := some (10, true) }) (v := ?_) rfl (by kernel_rfl) (by kernel_rfl) (by kernel_rfl) (fun _ _ _ h => h) (Or.inl ⟨by rfl, ?_⟩) (by assumption) ?_
      rotate_left 1
      · (intro W hSW; (try dsimp only at hSW); first | (go_simp; done) | (go_simp; with_reducible rfl))
      try simp only [Act.put, List.setIfInBounds_toArray, List.set_cons_zero, List.set_cons_succ]
      refine wpAnyH_take (i := 18) (oi := { dst := some 92, op := Op.pick (Operand.tmp 84) (Operand.tmp 91) (Operand.const (Value.bool false)), type := 4, pos := "law.go:81", after := #[{ on := 10, ground := Ground.data }, { on := 17, ground := Ground.data }], guard := none }) (v := ?_) rfl (by kernel_rfl) (by kernel_rfl) (by kernel_rfl) (fun _ _ _ h => h) (Or.inl ⟨by rfl, ?_⟩) (by assumption) ?_
      rotate_left 1
      · (intro W hSW; (try dsimp only at hSW); first | (go_simp; done) | (go_simp; with_reducible rfl))
      try simp only [Act.put, List.setIfInBounds_toArray, List.set_cons_zero, List.set_cons_succ]
      refine wpAnyH_take (i := 19) (oi := { dst := some 6, op := Op.assign (Operand.tmp 92), type := 4, pos := "law.go:81", after := #[{ on := 18, ground := Ground.data }, { on := 15, ground := Ground.chain }, { on := 0, ground := Ground.phase }, { on := 1, ground := Ground.phase }, { on := 2, ground := Ground.phase }, { on := 3, ground := Ground.phase }, { on := 4, ground := Ground.phase }, { on := 5, ground := Ground.phase }, { on := 6, ground := Ground.phase }, { on := 7, ground := Ground.phase }, { on := 8, ground := Ground.phase }, { on := 9, ground := Ground.phase }, { on := 10, ground := Ground.phase }, { on := 11, ground := Ground.phase }, { on := 12, ground := Ground.phase }, { on := 13, ground := Ground.phase }, { on := 14, ground := Ground.phase }, { on := 15, ground := Ground.phase }, { on := 16, ground := Ground.phase }, { on := 17, ground := Ground.phase }, { on := 18, ground := Ground.phase }], guard := none }) (v := ?_) rfl (by kernel_rfl) (by kernel_rfl) (by kernel_rfl) (fun _ _ _ h => h) (Or.inl ⟨by rfl, ?_⟩) (by assumption) ?_
      rotate_left 1
      · (intro W hSW; (try dsimp only at hSW); first | (go_simp; done) | (go_simp; with_reducible rfl))
      try simp only [Act.put, List.setIfInBounds_toArray, List.set_cons_zero, List.set_cons_succ]
      refine wpAnyH_done (by kernel_rfl) ?_ _
      have hEND := hgr4
      clear hHeld
      have HE9 := Lib.hid (HG.out.trans ((HG6.out.trans HG9.out).trans hEND))
      clear hEND
      go_wp2_with fail
      go_ret
      exact ⟨rfl, HE9.out⟩
  | true =>
    have hxt : X = true := by
      cases X with
      | false => exact absurd ⟨rfl, rfl⟩ hx2
      | true => rfl
    subst hxt
    clear hx2
    cases Y <;> cases Z <;> first | (exfalso; revert hx1; decide) | clear hx1
    all_goals
      go_wp2_with fail
      have HS := Lib.hid (fun (W : World) (hW : u5.grownBy W none) => (⟨hW, hW.cell a0 (by simp), hW.cell a1 (by simp), hW.cell a2 (by simp), hW.cell a3 (by simp), hW.cell b0 (by simp), hW.cell b1 (by simp), hW.cell b2 (by simp), hW.cell b3 (by simp), hW.cell c0 (by simp), hW.cell c1 (by simp), hW.cell c2 (by simp), hW.cell c3 (by simp)⟩ : (fun w' : World => u5.grownBy w' none ∧ w'.cell? ⟨w.heap.size, 0, none⟩ = some (.slice sa0 n0 sc0) ∧ w'.cell? ⟨w.heap.size, 1, none⟩ = some (.int .i64 st0) ∧ w'.cell? ⟨w.heap.size, 2, none⟩ = some (.slice ta0 k0 tc0) ∧ w'.cell? ⟨w.heap.size, 3, none⟩ = some (.int .i64 p0) ∧ w'.cell? ⟨w.heap.size + 1, 0, none⟩ = some (.slice sa1 n1 sc1) ∧ w'.cell? ⟨w.heap.size + 1, 1, none⟩ = some (.int .i64 st1) ∧ w'.cell? ⟨w.heap.size + 1, 2, none⟩ = some (.slice ta1 k1 tc1) ∧ w'.cell? ⟨w.heap.size + 1, 3, none⟩ = some (.int .i64 p1) ∧ w'.cell? ⟨w.heap.size + 1 + 1, 0, none⟩ = some (.slice sa2 n2 sc2) ∧ w'.cell? ⟨w.heap.size + 1 + 1, 1, none⟩ = some (.int .i64 st2) ∧ w'.cell? ⟨w.heap.size + 1 + 1, 2, none⟩ = some (.slice ta2 k2 tc2) ∧ w'.cell? ⟨w.heap.size + 1 + 1, 3, none⟩ = some (.int .i64 p2)) W))
      clear a0 a1 a2 a3 b0 b1 b2 b3 c0 c1 c2 c3
      have hdr : u5.grownBy u5.drew none := ⟨rfl, rfl, rfl, Nat.le_refl _, fun _ _ _ => rfl⟩
      refine wp_region_held_drew (S := (fun w' : World => u5.grownBy w' none ∧ w'.cell? ⟨w.heap.size, 0, none⟩ = some (.slice sa0 n0 sc0) ∧ w'.cell? ⟨w.heap.size, 1, none⟩ = some (.int .i64 st0) ∧ w'.cell? ⟨w.heap.size, 2, none⟩ = some (.slice ta0 k0 tc0) ∧ w'.cell? ⟨w.heap.size, 3, none⟩ = some (.int .i64 p0) ∧ w'.cell? ⟨w.heap.size + 1, 0, none⟩ = some (.slice sa1 n1 sc1) ∧ w'.cell? ⟨w.heap.size + 1, 1, none⟩ = some (.int .i64 st1) ∧ w'.cell? ⟨w.heap.size + 1, 2, none⟩ = some (.slice ta1 k1 tc1) ∧ w'.cell? ⟨w.heap.size + 1, 3, none⟩ = some (.int .i64 p1) ∧ w'.cell? ⟨w.heap.size + 1 + 1, 0, none⟩ = some (.slice sa2 n2 sc2) ∧ w'.cell? ⟨w.heap.size + 1 + 1, 1, none⟩ = some (.int .i64 st2) ∧ w'.cell? ⟨w.heap.size + 1 + 1, 2, none⟩ = some (.slice ta2 k2 tc2) ∧ w'.cell? ⟨w.heap.size + 1 + 1, 3, none⟩ = some (.int .i64 p2))) (by kernel_rfl) (HS.out _ hdr) (fun hHeld => ?_)
      refine wpAnyH_take (i := 0) (oi := { dst := some 74, op := Op.move (Operand.tmp 7), type := 4, pos := "law.go:81", after := #[], guard := none }) (v := ?_) rfl (by kernel_rfl) (by kernel_rfl) (by kernel_rfl) (fun _ _ _ h => h) (Or.inl ⟨by rfl, ?_⟩) (by assumption) ?_
      rotate_left 1
      · (intro W hSW; (try dsimp only at hSW); first | (go_simp; done) | (go_simp; with_reducible rfl))
      try simp only [Act.put, List.setIfInBounds_toArray, List.set_cons_zero, List.set_cons_succ]
      refine wpAnyH_take (i := 1) (oi := { dst := some 75, op := Op.move (Operand.tmp 74), type := 4, pos := "law.go:81", after := #[{ on := 0, ground := Ground.data }], guard := none }) (v := ?_) rfl (by kernel_rfl) (by kernel_rfl) (by kernel_rfl) (fun _ _ _ h => h) (Or.inl ⟨by rfl, ?_⟩) (by assumption) ?_
      rotate_left 1
      · (intro W hSW; (try dsimp only at hSW); first | (go_simp; done) | (go_simp; with_reducible rfl))
      try simp only [Act.put, List.setIfInBounds_toArray, List.set_cons_zero, List.set_cons_succ]
      refine wpAnyH_take (i := 2) (oi := { dst := some 76, op := Op.move (Operand.tmp 8), type := 4, pos := "law.go:81", after := #[{ on := 1, ground := Ground.guard }], guard := some (1, true) }) (v := ?_) rfl (by kernel_rfl) (by kernel_rfl) (by kernel_rfl) (fun _ _ _ h => h) (Or.inl ⟨by rfl, ?_⟩) (by assumption) ?_
      rotate_left 1
      · (intro W hSW; (try dsimp only at hSW); first | (go_simp; done) | (go_simp; with_reducible rfl))
      try simp only [Act.put, List.setIfInBounds_toArray, List.set_cons_zero, List.set_cons_succ]
      refine wpAnyH_take (i := 3) (oi := { dst := some 77, op := Op.load 33 (Operand.tmp 3), type := 33, pos := "law.go:81", after := #[{ on := 1, ground := Ground.guard }], guard := some (1, true) }) (v := ?_) rfl (by kernel_rfl) (by kernel_rfl) (by kernel_rfl) (fun _ _ _ h => h) (Or.inl ⟨by rfl, ?_⟩) (by assumption) ?_
      rotate_left 1
      · (intro W hSW; (try dsimp only at hSW); first | (go_simp; done) | (go_simp; with_reducible rfl))
      try simp only [Act.put, List.setIfInBounds_toArray, List.set_cons_zero, List.set_cons_succ]
      refine wpAnyH_take (i := 5) (oi := { dst := some 79, op := Op.load 33 (Operand.tmp 4), type := 33, pos := "law.go:81", after := #[{ on := 1, ground := Ground.guard }], guard := some (1, true) }) (v := ?_) rfl (by kernel_rfl) (by kernel_rfl) (by kernel_rfl) (fun _ _ _ h => h) (Or.inl ⟨by rfl, ?_⟩) (by assumption) ?_
      rotate_left 1
      · (intro W hSW; (try dsimp only at hSW); first | (go_simp; done) | (go_simp; with_reducible rfl))
      try simp only [Act.put, List.setIfInBounds_toArray, List.set_cons_zero, List.set_cons_succ]
      refine wpAnyH_ready (rs := [4]) (by kernel_rfl) (by simp) ?_
      refine AllReadyH.cons (o := { dst := some 78, op := Op.call { callee := Callee.value (Operand.func 30), args := #[Operand.tmp 77], argTypes := #[33] }, type := 33, pos := "law.go:81", after := #[{ on := 3, ground := Ground.data }, { on := 1, ground := Ground.chain }, { on := 1, ground := Ground.guard }], guard := some (1, true) }) rfl (fun K hK => ?_) AllReadyH.nil
      go_simp
      go_at_call 30
      refine (HSH0.out _ (HG9.out.trans hdr)).mono ?_
      rintro e wc1 ⟨i1, d1, j1, e1, rfl, hs1, gc1⟩
      have HA1 := Lib.hid hs1.here; clear hs1
      go_wp2_with fail
      have hgr1 := World.grownBy.trans hdr gc1
      refine hK.out _ _ (HS.out _ hgr1) (fun hHeld => ?_)
      clear hK K
      try simp only [Act.put, List.setIfInBounds_toArray, List.set_cons_zero, List.set_cons_succ]
      refine wpAnyH_ready (rs := [6]) (by kernel_rfl) (by simp) ?_
      refine AllReadyH.cons (o := { dst := some 80, op := Op.call { callee := Callee.value (Operand.func 30), args := #[Operand.tmp 79], argTypes := #[33] }, type := 33, pos := "law.go:81", after := #[{ on := 5, ground := Ground.data }, { on := 4, ground := Ground.chain }, { on := 1, ground := Ground.guard }], guard := some (1, true) }) rfl (fun K hK => ?_) AllReadyH.nil
      go_simp
      go_at_call 30
      refine (HSH1.out _ (HG9.out.trans hgr1)).mono ?_
      rintro e wc2 ⟨i2, d2, j2, e2, rfl, hs2, gc2⟩
      have HA2 := Lib.hid (And.intro (And.intro (HA1.out.1.grown gc2) (HA1.out.2.grown gc2)) hs2.here); clear hs2
      go_wp2_with fail
      have hgr2 := World.grownBy.trans hgr1 gc2
      refine hK.out _ _ (HS.out _ hgr2) (fun hHeld => ?_)
      clear hK K
      try simp only [Act.put, List.setIfInBounds_toArray, List.set_cons_zero, List.set_cons_succ]
      refine wpAnyH_ready (rs := [7]) (by kernel_rfl) (by simp) ?_
      refine AllReadyH.cons (o := { dst := some 81, op := Op.call { callee := Callee.value (Operand.func 21), args := #[Operand.tmp 78, Operand.tmp 80], argTypes := #[33, 33] }, type := 4, pos := "law.go:81", after := #[{ on := 4, ground := Ground.data }, { on := 6, ground := Ground.data }, { on := 6, ground := Ground.chain }, { on := 1, ground := Ground.guard }], guard := some (1, true) }) rfl (fun K hK => ?_) AllReadyH.nil
      go_simp
      go_at_call 21
      refine (HREQ.out _ _ _ _ _ _ _ _ _ HA2.out.1.1 HA2.out.2.1 HA2.out.1.2 HA2.out.2.2).mono ?_
      rintro e wc3 ⟨rfl, gc3⟩
      go_wp2_with fail
      have hgr3 := World.grownBy.trans hgr2 gc3
      refine hK.out _ _ (HS.out _ hgr3) (fun hHeld => ?_)
      clear hK K
      try simp only [Act.put, List.setIfInBounds_toArray, List.set_cons_zero, List.set_cons_succ]
      refine wpAnyH_take (i := 8) (oi := { dst := some 82, op := Op.binOp BinOp.eql 4 (Operand.tmp 76) (Operand.tmp 81) 4, type := 4, pos := "law.go:81", after := #[{ on := 2, ground := Ground.data }, { on := 7, ground := Ground.data }, { on := 1, ground := Ground.guard }], guard := some (1, true) }) (v := ?_) rfl (by kernel_rfl) (by kernel_rfl) (by kernel_rfl) (fun _ _ _ h => h) (Or.inl ⟨by rfl, ?_⟩) (by assumption) ?_
      rotate_left 1
      · (intro W hSW; (try dsimp only at hSW); first | (go_simp; done) | (go_simp; with_reducible rfl))
      try simp only [Act.put, List.setIfInBounds_toArray, List.set_cons_zero, List.set_cons_succ]
      refine wpAnyH_take (i := 9) (oi := { dst := some 83, op := Op.pick (Operand.tmp 75) (Operand.tmp 82) (Operand.const (Value.bool false)), type := 4, pos := "law.go:81", after := #[{ on := 1, ground := Ground.data }, { on := 8, ground := Ground.data }], guard := none }) (v := ?_) rfl (by kernel_rfl) (by kernel_rfl) (by kernel_rfl) (fun _ _ _ h => h) (Or.inl ⟨by rfl, ?_⟩) (by assumption) ?_
      rotate_left 1
      · (intro W hSW; (try dsimp only at hSW); first | (go_simp; done) | (go_simp; with_reducible rfl))
      try simp only [Act.put, List.setIfInBounds_toArray, List.set_cons_zero, List.set_cons_succ]
      refine wpAnyH_take (i := 10) (oi := { dst := some 84, op := Op.move (Operand.tmp 83), type := 4, pos := "law.go:81", after := #[{ on := 9, ground := Ground.data }, { on := 7, ground := Ground.chain }], guard := none }) (v := ?_) rfl (by kernel_rfl) (by kernel_rfl) (by kernel_rfl) (fun _ _ _ h => h) (Or.inl ⟨by rfl, ?_⟩) (by assumption) ?_
      rotate_left 1
      · (intro W hSW; (try dsimp only at hSW); first | (go_simp; done) | (go_simp; with_reducible rfl))
      try simp only [Act.put, List.setIfInBounds_toArray, List.set_cons_zero, List.set_cons_succ]
      refine wpAnyH_take (i := 11) (oi := { dst := some 85, op := Op.load 33 (Operand.tmp 3), type := 33, pos := "law.go:81", after := #[{ on := 10, ground := Ground.guard }], guard := some (10, true) }) (v := ?_) rfl (by kernel_rfl) (by kernel_rfl) (by kernel_rfl) (fun _ _ _ h => h) (Or.inl ⟨by rfl, ?_⟩) (by assumption) ?_
      rotate_left 1
      · (intro W hSW; (try dsimp only at hSW); first | (go_simp; done) | (go_simp; with_reducible rfl))
      try simp only [Act.put, List.setIfInBounds_toArray, List.set_cons_zero, List.set_cons_succ]
      refine wpAnyH_take (i := 12) (oi := { dst := some 86, op := Op.load 33 (Operand.tmp 4), type := 33, pos := "law.go:81", after := #[{ on := 10, ground := Ground.guard }], guard := some (10, true) }) (v := ?_) rfl (by kernel_rfl) (by kernel_rfl) (by kernel_rfl) (fun _ _ _ h => h) (Or.inl ⟨by rfl, ?_⟩) (by assumption) ?_
      rotate_left 1
      · (intro W hSW; (try dsimp only at hSW); first | (go_simp; done) | (go_simp; with_reducible rfl))
      try simp only [Act.put, List.setIfInBounds_toArray, List.set_cons_zero, List.set_cons_succ]
      refine wpAnyH_ready (rs := [13]) (by kernel_rfl) (by simp) ?_
      refine AllReadyH.cons (o := { dst := some 87, op := Op.call { callee := Callee.value (Operand.func 20), args := #[Operand.tmp 85, Operand.tmp 86], argTypes := #[33, 33] }, type := 4, pos := "law.go:81", after := #[{ on := 11, ground := Ground.data }, { on := 12, ground := Ground.data }, { on := 10, ground := Ground.chain }, { on := 10, ground := Ground.guard }], guard := some (10, true) }) rfl (fun K hK => ?_) AllReadyH.nil
      go_simp
      go_at_call 20
      refine (HEQ.out _ (HG9.out.trans hgr3)).mono ?_
      rintro e wc4 ⟨rfl, gc4⟩
      go_wp2_with fail
      have hgr4 := World.grownBy.trans hgr3 gc4
      refine hK.out _ _ (HS.out _ hgr4) (fun hHeld => ?_)
      clear hK K
      try simp only [Act.put, List.setIfInBounds_toArray, List.set_cons_zero, List.set_cons_succ]
      refine wpAnyH_take (i := 14) (oi := { dst := some 88, op := Op.unOp UnOp.not 4 (Operand.tmp 87), type := 4, pos := "law.go:81", after := #[{ on := 13, ground := Ground.data }, { on := 10, ground := Ground.guard }], guard := some (10, true) }) (v := ?_) rfl (by kernel_rfl) (by kernel_rfl) (by kernel_rfl) (fun _ _ _ h => h) (Or.inl ⟨by rfl, ?_⟩) (by assumption) ?_
      rotate_left 1
      · (intro W hSW; (try dsimp only at hSW); first | (go_simp; done) | (go_simp; with_reducible rfl))
      try simp only [Act.put, List.setIfInBounds_toArray, List.set_cons_zero, List.set_cons_succ]
      refine wpAnyH_take (i := 15) (oi := { dst := some 89, op := Op.move (Operand.tmp 88), type := 4, pos := "law.go:81", after := #[{ on := 14, ground := Ground.data }, { on := 13, ground := Ground.chain }, { on := 10, ground := Ground.guard }], guard := some (10, true) }) (v := ?_) rfl (by kernel_rfl) (by kernel_rfl) (by kernel_rfl) (fun _ _ _ h => h) (Or.inl ⟨by rfl, ?_⟩) (by assumption) ?_
      rotate_left 1
      · (intro W hSW; (try dsimp only at hSW); first | (go_simp; done) | (go_simp; with_reducible rfl))
      try simp only [Act.put, List.setIfInBounds_toArray, List.set_cons_zero, List.set_cons_succ]
      refine wpAnyH_take (i := 16) (oi := { dst := some 90, op := Op.move (Operand.tmp 8), type := 4, pos := "law.go:81", after := #[{ on := 15, ground := Ground.guard }], guard := some (15, false) }) (v := ?_) rfl (by kernel_rfl) (by kernel_rfl) (by kernel_rfl) (fun _ _ _ h => h) (Or.inl ⟨by rfl, ?_⟩) (by assumption) ?_
      rotate_left 1
      · (intro W hSW; (try dsimp only at hSW); first | (go_simp; done) | (go_simp; with_reducible rfl))
      try simp only [Act.put, List.setIfInBounds_toArray, List.set_cons_zero, List.set_cons_succ]
      refine wpAnyH_take (i := 17) (oi := { dst := some 91, op := Op.pick (Operand.tmp 89) (Operand.const (Value.bool true)) (Operand.tmp 90), type := 4, pos := "law.go:81", after := #[{ on := 15, ground := Ground.data }, { on := 16, ground := Ground.data }, { on := 10, ground := Ground.guard }], guard := some (10, true) }) (v := ?_) rfl (by kernel_rfl) (by kernel_rfl) (by kernel_rfl) (fun _ _ _ h => h) (Or.inl ⟨by rfl, ?_⟩) (by assumption) ?_
      rotate_left 1
      · (intro W hSW; (try dsimp only at hSW); first | (go_simp; done) | (go_simp; with_reducible rfl))
      try simp only [Act.put, List.setIfInBounds_toArray, List.set_cons_zero, List.set_cons_succ]
      refine wpAnyH_take (i := 18) (oi := { dst := some 92, op := Op.pick (Operand.tmp 84) (Operand.tmp 91) (Operand.const (Value.bool false)), type := 4, pos := "law.go:81", after := #[{ on := 10, ground := Ground.data }, { on := 17, ground := Ground.data }], guard := none }) (v := ?_) rfl (by kernel_rfl) (by kernel_rfl) (by kernel_rfl) (fun _ _ _ h => h) (Or.inl ⟨by rfl, ?_⟩) (by assumption) ?_
      rotate_left 1
      · (intro W hSW; (try dsimp only at hSW); first | (go_simp; done) | (go_simp; with_reducible rfl))
      try simp only [Act.put, List.setIfInBounds_toArray, List.set_cons_zero, List.set_cons_succ]
      refine wpAnyH_take (i := 19) (oi := { dst := some 6, op := Op.assign (Operand.tmp 92), type := 4, pos := "law.go:81", after := #[{ on := 18, ground := Ground.data }, { on := 15, ground := Ground.chain }, { on := 0, ground := Ground.phase }, { on := 1, ground := Ground.phase }, { on := 2, ground := Ground.phase }, { on := 3, ground := Ground.phase }, { on := 4, ground := Ground.phase }, { on := 5, ground := Ground.phase }, { on := 6, ground := Ground.phase }, { on := 7, ground := Ground.phase }, { on := 8, ground := Ground.phase }, { on := 9, ground := Ground.phase }, { on := 10, ground := Ground.phase }, { on := 11, ground := Ground.phase }, { on := 12, ground := Ground.phase }, { on := 13, ground := Ground.phase }, { on := 14, ground := Ground.phase }, { on := 15, ground := Ground.phase }, { on := 16, ground := Ground.phase }, { on := 17, ground := Ground.phase }, { on := 18, ground := Ground.phase }], guard := none }) (v := ?_) rfl (by kernel_rfl) (by kernel_rfl) (by kernel_rfl) (fun _ _ _ h => h) (Or.inl ⟨by rfl, ?_⟩) (by assumption) ?_
      rotate_left 1
      · (intro W hSW; (try dsimp only at hSW); first | (go_simp; done) | (go_simp; with_reducible rfl))
      try simp only [Act.put, List.setIfInBounds_toArray, List.set_cons_zero, List.set_cons_succ]
      refine wpAnyH_done (by kernel_rfl) ?_ _
      have hEND := hgr4
      clear hHeld
      have HE9 := Lib.hid (HG.out.trans ((HG6.out.trans HG9.out).trans hEND))
      clear hEND
      go_wp2_with fail
      go_ret
      exact ⟨rfl, HE9.out⟩
end Go.Proofs.Ytbddpjofhddilaa
