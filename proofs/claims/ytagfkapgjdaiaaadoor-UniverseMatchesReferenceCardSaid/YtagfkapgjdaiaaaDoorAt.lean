/- The reference's Full. -/
import Derived.Test.YtagfkapgjdaiaaaDoorAs
import Derived.BigQuiet
import Derived.Maps.AppendAt
namespace Go.Proofs.YtagfkapgjdaiaaaDoor
open Go.RowKit Go.Shelf

theorem results29 (tmps : Array Value) (w : World) (b : Nat) (a : Option Addr) (n c : Nat) (x : Int) (ht : tmps.getD 4 undef = .pointer (some ⟨b, 0, none⟩)) (h0 : w.cell? ⟨b, 0, none⟩ = some (.int .i64 x)) (h1 : w.cell? ⟨b, 1, none⟩ = some (.slice a n c)) :
    (results Tryd.f29 tmps).run Tryd.prog w = .ok (.agg #[.int .i64 x, .slice a n c]) w := by
  have ht' : tmps[4]?.getD undef = .pointer (some ⟨b, 0, none⟩) := by simpa using ht
  simp [results, ht', go_sem, h0, h1, Result.andThen]
/-- The result's cells are written. -/
theorem res_set {W : World} {b : Nat} {x : Int} {v u0 u1 : Value} (h0 : W.cell? ⟨b, 0, none⟩ = some u0) (h1 : W.cell? ⟨b, 1, none⟩ = some u1) :
    ((W.setCell ⟨b, 0, none⟩ (.int .i64 x)).setCell ⟨b, 1, none⟩ v).cell? ⟨b, 0, none⟩ = some (.int .i64 x) ∧ ((W.setCell ⟨b, 0, none⟩ (.int .i64 x)).setCell ⟨b, 1, none⟩ v).cell? ⟨b, 1, none⟩ = some v := by
  refine ⟨?_, World.cell?_setCell_same _ _ _ (show (W.setCell ⟨b, 0, none⟩ (.int .i64 x)).cell? ⟨b, 1, none⟩ = some u1 by rw [World.cell?_setCell_other _ _ _ _ (by intro e; injection e with _ e1; omega)]; exact h1)⟩
  rw [World.cell?_setCell_other _ _ _ _ (by intro e; injection e with _ e1; omega)]
  exact World.cell?_setCell_same _ _ _ h0
set_option maxRecDepth 100000 in
set_option maxHeartbeats 4000000 in
theorem rFull_calls (zs : List Nat) (a : Option Addr) (c : Nat) (st : Int) (ss : List Int) (ta : Option Addr) (tc : Nat) (w : World) (h : Nums w a c zs) (hz : ∀ z ∈ zs, z ≤ 5) (hl : zs.length ≤ 4) (ht : Ints w ta tc ss) (htl : ss.length ≤ 1000) :
    Calls Tryd.prog 29 #[.agg #[.slice a zs.length c, .int .i64 st], .slice ta ss.length tc] w (FullR w zs zs.length ss) := by
  obtain ⟨N, hN⟩ : ∃ N, zs.length = N := ⟨_, rfl⟩
  obtain ⟨k, hk⟩ : ∃ k, ss.length = k := ⟨_, rfl⟩
  have HH := Lib.hid (And.intro h (And.intro hz (And.intro hl (And.intro ht (And.intro hN hk)))))
  rw [hN] at hl ⊢
  rw [hk] at htl ⊢
  clear h hz ht hN hk
  obtain ⟨i0, hi0, hz0, hz1, hz2⟩ := info_parts info3
  have gw := World.grownBy_alloc w (.cells #[.slice a N c, .int .i64 st] 30) none
  have gz := gw.trans (World.grownBy_alloc (w.alloc (.cells #[.slice a N c, .int .i64 st] 30)) (.cells #[.int .i64 0, .slice none 0 0] 44) none)
  have HZ := Lib.hid gz; clear gw gz
  by_cases hkb : k = 0 ∨ 3 < k
  · have hcase : decide ((k : Int) < 1) = true ∨ (decide ((k : Int) < 1) = false ∧ decide (3 < (k : Int)) = true) := by
      by_cases h0 : k = 0
      · exact .inl (by simp; omega)
      · exact .inr ⟨by simp; omega, by simp; omega⟩
    have HF : Hid (fits N ss = false) := Lib.hid (by simp only [fits, HH.out.2.2.2.2.2, decide_eq_false_iff_not]; intro hq; omega)
    clear hkb
    rcases hcase with e1 | ⟨e1, e2⟩
    all_goals
      go_enter Tryd.func29, Tryd.ntmps29
      go_wp2_with fail
      refine bodyPost_ret (results29 _ _ (w.heap.size + 1) none 0 0 0 rfl (by go_simp) (by go_simp)) rfl ?_
      exact full_zero HH.out.2.2.2.2.1 HF.out HZ.out
  have hk1 : 1 ≤ k := by omega
  have hk3 : k ≤ 3 := by omega
  have e1 : decide ((k : Int) < 1) = false := by simp; omega
  have e2 : decide (3 < (k : Int)) = false := by simp; omega
  clear hkb
  go_enter Tryd.func29, Tryd.ntmps29
  go_wp2_with fail
  obtain ⟨b, hb⟩ : ∃ b, w.heap.size = b := ⟨_, rfl⟩
  have gr : ∀ W1 : World, w.alloc (.cells #[.slice a N c, .int .i64 st] 30) = W1 → w.grownBy W1 none ∧ W1.heap.size = b + 1 ∧ W1.cell? ⟨b, 0, none⟩ = some (.slice a N c) ∧ W1.cell? ⟨b, 1, none⟩ = some (.int .i64 st) := fun W1 hW => by
    rw [← hW, ← hb]
    exact ⟨World.grownBy_alloc _ _ none, by simp, by clear hW; go_simp, by clear hW; go_simp⟩
  obtain ⟨W1, hW1⟩ : ∃ W1, w.alloc (.cells #[.slice a N c, .int .i64 st] 30) = W1 := ⟨_, rfl⟩
  have gr := gr W1 hW1
  rw [hW1] at HZ ⊢
  rw [hb]
  have HWB := Lib.hid hb
  clear hb hW1
  have gs : ∀ W0 : World, W1.alloc (.cells #[.int .i64 0, .slice none 0 0] 44) = W0 → W1.grownBy W0 none ∧ W0.heap.size = b + 2 ∧ W0.cell? ⟨b + 1, 0, none⟩ = some (.int .i64 0) ∧ W0.cell? ⟨b + 1, 1, none⟩ = some (.slice none 0 0) ∧ W0.frozen? ⟨b + 1, 0, none⟩ = false ∧ W0.frozen? ⟨b + 1, 1, none⟩ = false := fun W0 hW => by
    rw [← hW, ← gr.2.1]
    exact ⟨World.grownBy_alloc _ _ none, by rw [World.size_alloc]; have := gr.2.1; omega, by clear hW; go_simp, by clear hW; go_simp, by clear hW; go_simp, by clear hW; go_simp⟩
  obtain ⟨W0, hW0⟩ : ∃ W0, W1.alloc (.cells #[.int .i64 0, .slice none 0 0] 44) = W0 := ⟨_, rfl⟩
  obtain ⟨hg0, hs0, r0, r1, f0, f1⟩ := gs W0 hW0
  rw [hW0] at HZ ⊢
  clear hW0 gs
  obtain ⟨hg1, hs1, b0, b1⟩ := gr
  have c0 := hg0.cell b0 (by simp)
  have c1 := hg0.cell b1 (by simp)
  have HW := Lib.hid (And.intro hg1 (And.intro hs1 (And.intro hg0 (And.intro hs0 (And.intro b0 b1)))))
  clear hg1 hs1 hg0 hs0 b0 b1
  go_loopg [6] k (fun gk s6 wr => ∃ i : Nat, s6 = .int .i64 (i : Int) ∧ gk = k - i ∧ i ≤ k ∧ (∃ q, wr = W0.drewN q) ∧ ∀ s ∈ ss.take i, 0 ≤ s ∧ s < (N : Int))
  case atStart => exact ⟨0, rfl, rfl, Nat.zero_le _, ⟨0, rfl⟩, fun s hs => by simp at hs⟩
  case round =>
    obtain ⟨i, rfl, hgk, hik, hwr, hall⟩ := hrel
    have hgr : W0.grownBy wr none := by obtain ⟨q, rfl⟩ := hwr; exact grown_drewN _ _ _
    have hfr : wr.frozen? ⟨b + 1, 0, none⟩ = false ∧ wr.frozen? ⟨b + 1, 1, none⟩ = false := by obtain ⟨q, rfl⟩ := hwr; exact ⟨f0, f1⟩
    obtain ⟨g0, g1⟩ := hfr
    have d0 := hgr.cell c0 (by simp)
    have d1 := hgr.cell c1 (by simp)
    have q0 := hgr.cell r0 (by simp)
    have q1 := hgr.cell r1 (by simp)
    have HGK := Lib.hid (And.intro hgk (And.intro hik (And.intro hall (And.intro hgr hwr)))); clear hgk hall hgr hwr
    by_cases hi : i < k
    · have hiB : decide (i < k) = true := by simpa using hi
      have hiI : (i : Int) < (k : Int) := by omega
      obtain ⟨s, hs⟩ : ∃ s, ss[i]? = some s := ⟨_, List.getElem?_eq_getElem (by have := HH.out.2.2.2.2.2; omega)⟩
      obtain ⟨tb, to, rfl, hcell⟩ := (HH.out.2.2.2.1.grown (HZ.out.trans HGK.out.2.2.2.1)).at hs
      have HS := Lib.hid hs; clear hs
      by_cases hbad : s < 0 ∨ (N : Int) ≤ s
      · have hcase : decide (s < 0) = true ∨ (decide (s < 0) = false ∧ decide ((N : Int) ≤ s) = true) := by
          by_cases h0 : s < 0
          · exact .inl (by simpa using h0)
          · exact .inr ⟨by simpa using h0, by simp; omega⟩
        have HF := Lib.hid (fits_not (N := N) (List.mem_of_getElem? HS.out) hbad)
        clear hbad
        rcases hcase with ds | ⟨ds, dN⟩
        all_goals
          go_wp2_with fail
          go_quiet (fail)
          obtain ⟨wq, hwq⟩ : ∃ wq, wr.drewN nq = wq := ⟨_, rfl⟩
          have hgq : wr.grownBy wq none := by rw [← hwq]; exact grown_drewN _ _ _
          have hfq : wq.frozen? ⟨b + 1, 0, none⟩ = false ∧ wq.frozen? ⟨b + 1, 1, none⟩ = false := by rw [← hwq]; exact ⟨g0, g1⟩
          obtain ⟨fq0, fq1⟩ := hfq
          have p0 := hgq.cell q0 (by simp)
          have p1 := hgq.cell q1 (by simp)
          have HGQ := Lib.hid hgq; clear hgq
          rw [hwq]
          clear hwq
          go_wp2
          have hr := res_set (x := 0) (v := .slice none 0 0) p0 p1
          refine bodyPost_ret (results29 _ _ (b + 1) none 0 0 0 rfl hr.1 hr.2) rfl ?_
          exact full_zero HH.out.2.2.2.2.1 HF.out (grown_own (grown_own ((HZ.out.trans HGK.out.2.2.2.1).trans HGQ.out) (grown_set _ _ _ _) (fun j hj => by cases hj; have := HWB.out; omega)) (grown_set _ _ _ _) (fun j hj => by cases hj; have := HWB.out; omega))
      have ds : decide (s < 0) = false := by simp; omega
      have dN : decide ((N : Int) ≤ s) = false := by simp; omega
      have HSN : Hid (0 ≤ s ∧ s < (N : Int)) := Lib.hid (by omega)
      clear hbad
      go_wp2_with fail
      go_quiet (fail)
      obtain ⟨wq, hwq⟩ : ∃ wq, wr.drewN nq = wq := ⟨_, rfl⟩
      have HWQ : Hid (∃ q, wq = W0.drewN q) := Lib.hid (by obtain ⟨q, hq⟩ := HGK.out.2.2.2.2; exact ⟨q + nq, by rw [← hwq, hq, World.drewN_drewN]⟩)
      rw [hwq]
      clear hwq
      go_wp2
      go_roundg (k - (i + 1))
      case measure => rw [HGK.out.1]; omega
      case rel =>
        refine ⟨i + 1, rfl, rfl, by omega, HWQ.out, fun y hy => ?_⟩
        rw [List.take_add_one, HS.out, Option.toList_some, List.mem_append] at hy
        rcases hy with hy | hy
        · exact HGK.out.2.2.1 y hy
        · simp at hy; subst hy; exact HSN.out
    · have hie : i = k := by omega
      subst hie
      have hiB : decide (i < i) = false := by simp
      have hall : ∀ s ∈ ss, 0 ≤ s ∧ s < (N : Int) := by
        have h1 := HGK.out.2.2.1
        rw [List.take_of_length_le (by rw [HH.out.2.2.2.2.2]; exact Nat.le_refl _)] at h1
        exact h1
      have hfit : fits N ss = true := by simp only [fits, decide_eq_true_eq, HH.out.2.2.2.2.2]; exact ⟨by omega, by omega, hall⟩
      have hsz : wr.heap.size = b + 2 := by obtain ⟨q, hq⟩ := HGK.out.2.2.2.2; rw [hq]; exact HW.out.2.2.2.1
      have hF0 := FuB.start W1 i (b + 1) wr (HW.out.2.2.1.trans HGK.out.2.2.2.1) (by have := HW.out.2.1; omega) ⟨by rw [q0]; rfl, g0⟩ ⟨by rw [q1]; rfl, g1⟩
      rw [hsz] at hF0
      have HF0 := Lib.hid hF0; clear hF0
      have hsum := sum_le HH.out.2.1
      have hzl := HH.out.2.2.1
      have hM0 : sum zs ^ i ≤ 20 ^ 3 := Nat.le_trans (Nat.pow_le_pow_left (by omega) i) (Nat.pow_le_pow_right (by omega) hk3)
      obtain ⟨M, hM⟩ : ∃ M, sum zs ^ i = M := ⟨_, rfl⟩
      rw [hM] at hM0
      have hM8 : M ≤ 8000 := by omega
      have hsk := HH.out.2.2.2.2.2
      have hRK : ∀ W : World, w.grownBy W none → Calls Tryd.prog 33 #[.agg #[.slice a N c, .int .i64 st], .int .i64 (i : Int)] W fun e w' => e = .returned (.int .i64 (M : Int)) ∧ W.grownBy w' none := fun W hW => by
        have hf := rRanks_calls zs a c st i W (HH.out.1.grown hW) HH.out.2.1 HH.out.2.2.1 hk3
        rw [HH.out.2.2.2.2.1, hM] at hf
        exact hf
      have hTU : ∀ (m : Nat) (W : World), m < M → w.grownBy W none → Calls Tryd.prog 26 #[.agg #[.slice a N c, .int .i64 st], .int .i64 (i : Int), .int .i64 (m : Int)] W fun e w' => ∃ a' c', e = .returned (.slice a' i c') ∧ Ints w' a' c' (ints (dig (sum zs) i m)) ∧ W.grownBy w' none := fun m W hm hW => by
        have hf := rTuple_calls zs a c st (i : Int) (m : Int) W (HH.out.1.grown hW) HH.out.2.1 HH.out.2.2.1 (by omega)
        have hN1 : 1 ≤ sum zs := by
          rcases Nat.eq_zero_or_pos (sum zs) with h0 | h0
          · rw [h0, Nat.zero_pow (by omega)] at hM; omega
          · exact h0
        have hlen : (ints (dig (sum zs) i m)).length = i := by rw [List.length_map, dig_length]
        rw [HH.out.2.2.2.2.1, tupI_in hk3 (.inl hN1) (by rw [hM]; exact hm), show (dig (sum zs) i m).map Int.ofNat = ints (dig (sum zs) i m) from rfl, hlen] at hf
        exact hf
      have hFI : ∀ (m : Nat) (W : World) (a' : Option Addr) (c' : Nat), w.grownBy W none → Ints W a' c' (ints (dig (sum zs) i m)) → Calls Tryd.prog 35 #[.agg #[.slice a N c, .int .i64 st], .slice a' i c', .slice ta i tc] W fun e w' => e = .returned (.bool (fitR zs (ints (dig (sum zs) i m)) ss)) ∧ W.grownBy w' none := fun m W a' c' hW hi => by
        have hlen : (ints (dig (sum zs) i m)).length = i := by rw [List.length_map, dig_length]
        have hf := rFits_calls zs a c st (ints (dig (sum zs) i m)) ss a' ta c' tc W (HH.out.1.grown hW) HH.out.2.1 HH.out.2.2.1 hi (HH.out.2.2.2.1.grown hW) (by rw [hlen, hsk]) (by omega)
        rw [HH.out.2.2.2.2.1, hlen, hsk] at hf
        exact hf
      have HC := Lib.hid (And.intro hRK (And.intro hTU hFI)); clear hRK hTU hFI
      have HRES : Hid (fullK N ss = i ∧ fullL zs ss = ints (fitTo zs ss M)) := Lib.hid ⟨by simp only [fullK, hfit, if_true]; exact hsk, by
        have h1 := fitTo_digs (zs := zs) (fun s hs => (hall s hs).1) (by rw [hsk]; omega)
        rw [hsk, hM] at h1
        simp only [fullL, HH.out.2.2.2.2.1, hfit, if_true]; rw [h1]⟩
      have HSK := Lib.hid hsk
      clear hall hfit hsum hzl hM0 hM hsk
      go_wp2_with fail
      obtain ⟨W5, hW5⟩ : ∃ W5, wr.alloc (.cells #[.int .i64 (i : Int), .slice none 0 0] 44) = W5 := ⟨_, rfl⟩
      rw [hW5] at HF0 ⊢
      clear hW5 hsz d0 d1 q0 q1 c0 c1 r0 r1 f0 f1 g0 g1
      go_loopg [8, 9] M (fun gk s8 s9 wx => ∃ m : Nat, s8 = .int .i64 (m : Int) ∧ gk = M - m ∧ m ≤ M ∧ FuB W1 wx (b + 2) (b + 1) (b + 3) i (ints (fitTo zs ss m)))
      case atStart => exact ⟨0, rfl, rfl, Nat.zero_le _, HF0.out⟩
      case round =>
        obtain ⟨m, rfl, hgm, hm, hF⟩ := hrel
        have d0 := hF.grown.cell HW.out.2.2.2.2.1 (by simp)
        have d1 := hF.grown.cell HW.out.2.2.2.2.2 (by simp)
        have HF := Lib.hid hF; clear hF
        have HGM := Lib.hid hgm; clear hgm
        go_wp2_with fail
        refine (HC.out.1 _ (HW.out.1.trans HF.out.grown)).mono ?_
        rintro e w2 ⟨rfl, g2⟩
        have hF2 := HF.out.quiet (C := W1.heap.size) (Nat.le_refl _) (.of_none g2)
        clear d0 d1 g2
        have d0 := hF2.grown.cell HW.out.2.2.2.2.1 (by simp)
        have d1 := hF2.grown.cell HW.out.2.2.2.2.2 (by simp)
        have HF2 := Lib.hid hF2; clear hF2
        by_cases hmM : m < M
        · have hmB : decide (m < M) = true := by simpa using hmM
          go_wp2_with fail
          refine (HC.out.2.1 m _ hmM (HW.out.1.trans HF2.out.grown)).mono ?_
          rintro e w3 ⟨a3, c3, rfl, hi3, g3⟩
          have hF3 := HF2.out.quiet (C := W1.heap.size) (Nat.le_refl _) (.of_none g3)
          clear d0 d1 g3
          have d0 := hF3.grown.cell HW.out.2.2.2.2.1 (by simp)
          have d1 := hF3.grown.cell HW.out.2.2.2.2.2 (by simp)
          have HF3 := Lib.hid (And.intro hF3 hi3); clear hF3 hi3
          go_wp2_with fail
          refine (HC.out.2.2 m _ a3 c3 (HW.out.1.trans HF3.out.1.grown) HF3.out.2).mono ?_
          rintro e w4 ⟨rfl, g4⟩
          have hF4 := HF3.out.1.quiet (C := W1.heap.size) (Nat.le_refl _) (.of_none g4)
          have hB4 := hF4.low.2.2.2
          obtain ⟨v, hv, hown⟩ := hF4.row
          have hfr4 := hF4.fr
          clear d0 d1 g4
          have HF4 := Lib.hid hF4; clear hF4
          have HNX := Lib.hid (fitTo_succ zs ss m)
          rw [HSK.out] at HNX
          have hpl := fitTo_length zs ss m
          obtain ⟨B, hB⟩ : ∃ B, fitR zs (ints (dig (sum zs) i m)) ss = B := ⟨_, rfl⟩
          rw [hB] at HNX ⊢
          clear hB
          cases B with
          | true =>
            have hlen : (ints (fitTo zs ss m)).length = (fitTo zs ss m).length := List.length_map _
            rw [← hlen] at hpl
            obtain ⟨P, hP⟩ : ∃ P, ints (fitTo zs ss m) = P := ⟨_, rfl⟩
            rw [hP] at hown hpl HF4
            have HP := Lib.hid hP
            clear hP hlen
            obtain ⟨va, vc, rfl⟩ := own_shape hown
            have HO := Lib.hid hown; clear hown
            go_wp2_with (at_builtin; refine wpList_append_own_at _ rfl _ _ 28 rfl (b + 3) 3 i0 (.int .i64 0) 1 8 Tryd.underlying28 hi0 hz0 hz1 hz2 rfl (by decide) _ _ _ rfl (HO.out.alloc _) ⟨w4.heap.size, 0, none⟩ 1 1 [.int .i64 (m : Int)] rfl rfl (cell_one_new _ _ _) (fun u hu => by simp at hu; subst hu; rfl) (by unfold maxLen; omega) (by omega) (by simp; omega) ?_; intro v' w5 hown' hgrow5 hnil5 hat5; obtain ⟨g', cap', rfl⟩ := own_shape hown'; obtain ⟨hs1, hs2⟩ := HF4.out.at_ hv HO.out hgrow5)
            have HS := Lib.hid (HF4.out.step hv HO.out hgrow5 hown' hat5).1
            clear hown' hgrow5 hnil5 hat5
            go_wp2
            go_roundg (M - (m + 1))
            case measure => rw [HGM.out]; omega
            case rel => exact ⟨m + 1, rfl, rfl, by omega, by rw [HNX.out, if_pos (by simp), show ints (fitTo zs ss m ++ [m]) = ints (fitTo zs ss m) ++ [(m : Int)] by rw [ints, List.map_append]; rfl, HP.out]; exact HS.out⟩
          | false =>
            clear hown
            go_wp2_with fail
            go_roundg (M - (m + 1))
            case measure => rw [HGM.out]; omega
            case rel => exact ⟨m + 1, rfl, rfl, by omega, by rw [HNX.out, if_neg (by simp)]; exact HF4.out⟩
        · have hme : m = M := by omega
          subst hme
          have hmB : decide (m < m) = false := by simp
          obtain ⟨v, hv, hown⟩ := HF2.out.row
          obtain ⟨va, vc, rfl, hints⟩ := own_ints hown
          have q0 := HF2.out.c0
          obtain ⟨u0, hu0⟩ := Option.isSome_iff_exists.1 HF2.out.r0.1
          obtain ⟨u1, hu1⟩ := Option.isSome_iff_exists.1 HF2.out.r1.1
          have f0 := HF2.out.r0.2
          have f1 := HF2.out.r1.2
          have HI := Lib.hid (And.intro hown hints); clear hown hints
          obtain ⟨n, hn⟩ : ∃ n, (ints (fitTo zs ss m)).length = n := ⟨_, rfl⟩
          rw [hn] at hv
          have HN := Lib.hid hn; clear hn
          go_wp2_with fail
          have hr := res_set (x := (i : Int)) (v := .slice va n vc) hu0 hu1
          refine bodyPost_ret (results29 _ _ (b + 1) va n vc i rfl hr.1 hr.2) rfl ?_
          have hk1' := HI.out.1.kept (grown_set w2 (b + 1) 0 (.int .i64 (i : Int))) (own_ne HI.out.1 (by omega))
          have hk2 := hk1'.kept (grown_set _ (b + 1) 1 (.slice va n vc)) (own_ne hk1' (by omega))
          obtain ⟨a', c', he, hnm⟩ := own_ints hk2
          injection he with e1 e2 e3
          subst e1; subst e3
          refine ⟨va, vc, by rw [HRES.out.1, HRES.out.2, HN.out], by rw [HRES.out.2]; exact hnm, ?_⟩
          have hwb := HWB.out
          exact grown_own (grown_own (HW.out.1.trans HF2.out.grown) (grown_set _ _ _ _) (fun j hj => by cases hj; omega)) (grown_set _ _ _ _) (fun j hj => by cases hj; omega)
end Go.Proofs.YtagfkapgjdaiaaaDoor
