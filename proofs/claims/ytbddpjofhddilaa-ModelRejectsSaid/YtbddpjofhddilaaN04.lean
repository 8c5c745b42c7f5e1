/- Common texts of the laws of stage 9, joined: UAt RA RB RC RE. -/
import Derived.Test.YtbddpjofhddilaaN03
import Derived.BigQuiet
import Derived.Maps.AppendAt
import Derived.Test.YtbddpjofhddilaaN02
import Derived.Laws.AppendOwn
/- The reference's Full. -/
namespace Go.Proofs.Ytbddpjofhddilaa
open Go.RowKit Go.Shelf

theorem results29 (tmps : Array Value) (w : World) (b : Nat) (a : Option Addr) (n c : Nat) (x : Int) (ht : tmps.getD 4 undef = .pointer (some ⟨b, 0, none⟩)) (h0 : w.cell? ⟨b, 0, none⟩ = some (.int .i64 x)) (h1 : w.cell? ⟨b, 1, none⟩ = some (.slice a n c)) :
    (results Try.f95 tmps).run Try.prog w = .ok (.agg #[.int .i64 x, .slice a n c]) w := by
  have ht' : tmps[4]?.getD undef = .pointer (some ⟨b, 0, none⟩) := by simpa using ht
  simp [results, ht', go_sem, h0, h1, Result.andThen]
/-- The result's cells are written. -/
theorem res_set {W : World} {b : Nat} {x : Int} {v u0 u1 : Value} (h0 : W.cell? ⟨b, 0, none⟩ = some u0) (h1 : W.cell? ⟨b, 1, none⟩ = some u1) :
    ((W.setCell ⟨b, 0, none⟩ (.int .i64 x)).setCell ⟨b, 1, none⟩ v).cell? ⟨b, 0, none⟩ = some (.int .i64 x) ∧ ((W.setCell ⟨b, 0, none⟩ (.int .i64 x)).setCell ⟨b, 1, none⟩ v).cell? ⟨b, 1, none⟩ = some v := by
  refine ⟨?_, World.cell?_setCell_same _ _ _ (show (W.setCell ⟨b, 0, none⟩ (.int .i64 x)).cell? ⟨b, 1, none⟩ = some u1 by rw [World.cell?_setCell_other _ _ _ _ (by intro e; injection e with _ e1; omega)]; exact h1)⟩
  rw [World.cell?_setCell_other _ _ _ _ (by intro e; injection e with _ e1; omega)]
  exact World.cell?_setCell_same _ _ _ h0
set_option maxRecDepth 100000 in
set_option maxHeartbeats 4000000 in
theorem rFull_calls (zs : List Nat) (a : Option Addr) (c : Nat) (st : Int) (ss : List Int) (ta : Option Addr) (tc : Nat) (w : World) (h : Nums w a c zs) (hz : ∀ z ∈ zs, z ≤ 5) (hl : zs.length ≤ 4) (ht : Ints w ta tc ss) (htl : ss.length ≤ 1000) :
    Calls Try.prog 95 #[.agg #[.slice a zs.length c, .int .i64 st], .slice ta ss.length tc] w (FullR w zs zs.length ss) := by
  obtain ⟨N, hN⟩ : ∃ N, zs.length = N := ⟨_, rfl⟩
  obtain ⟨k, hk⟩ : ∃ k, ss.length = k := ⟨_, rfl⟩
  have HH := Lib.hid (And.intro h (And.intro hz (And.intro hl (And.intro ht (And.intro hN hk)))))
  rw [hN] at hl ⊢
  rw [hk] at htl ⊢
  clear h hz ht hN hk
  obtain ⟨i0, hi0, hz0, hz1, hz2⟩ := info_parts info3
  have gw := World.grownBy_alloc w (.cells #[.slice a N c, .int .i64 st] 30) none
  have gz := gw.trans (World.grownBy_alloc (w.alloc (.cells #[.slice a N c, .int .i64 st] 30)) (.cells #[.int .i64 0, .slice none 0 0] 53) none)
  have HZ := Lib.hid gz; clear gw gz
  by_cases hkb : k = 0 ∨ 3 < k
  · have hcase : decide ((k : Int) < 1) = true ∨ (decide ((k : Int) < 1) = false ∧ decide (3 < (k : Int)) = true) := by
      by_cases h0 : k = 0
      · exact .inl (by simp; omega)
      · exact .inr ⟨by simp; omega, by simp; omega⟩
    have HF : Hid (fits N ss = false) := Lib.hid (by simp only [fits, HH.out.2.2.2.2.2, decide_eq_false_iff_not]; intro hq; omega)
    clear hkb
    rcases hcase with e1 | ⟨e1, e2⟩
    all_goals
      go_enter Try.func95, Try.ntmps95
      go_wp2_with fail
      refine bodyPost_ret (results29 _ _ (w.heap.size + 1) none 0 0 0 rfl (by go_simp) (by go_simp)) rfl ?_
      exact full_zero HH.out.2.2.2.2.1 HF.out HZ.out
  have hk1 : 1 ≤ k := by omega
  have hk3 : k ≤ 3 := by omega
  have e1 : decide ((k : Int) < 1) = false := by simp; omega
  have e2 : decide (3 < (k : Int)) = false := by simp; omega
  clear hkb
  go_enter Try.func95, Try.ntmps95
  go_wp2_with fail
  obtain ⟨b, hb⟩ : ∃ b, w.heap.size = b := ⟨_, rfl⟩
  have gr : ∀ W1 : World, w.alloc (.cells #[.slice a N c, .int .i64 st] 30) = W1 → w.grownBy W1 none ∧ W1.heap.size = b + 1 ∧ W1.cell? ⟨b, 0, none⟩ = some (.slice a N c) ∧ W1.cell? ⟨b, 1, none⟩ = some (.int .i64 st) := fun W1 hW => by
    rw [← hW, ← hb]
    exact ⟨World.grownBy_alloc _ _ none, by simp, by clear hW; go_simp, by clear hW; go_simp⟩
  obtain ⟨W1, hW1⟩ : ∃ W1, w.alloc (.cells #[.slice a N c, .int .i64 st] 30) = W1 := ⟨_, rfl⟩
  have gr := gr W1 hW1
  rw [hW1] at HZ ⊢
  rw [hb]
  have HWB := Lib.hid hb
  clear hb hW1
  have gs : ∀ W0 : World, W1.alloc (.cells #[.int .i64 0, .slice none 0 0] 53) = W0 → W1.grownBy W0 none ∧ W0.heap.size = b + 2 ∧ W0.cell? ⟨b + 1, 0, none⟩ = some (.int .i64 0) ∧ W0.cell? ⟨b + 1, 1, none⟩ = some (.slice none 0 0) ∧ W0.frozen? ⟨b + 1, 0, none⟩ = false ∧ W0.frozen? ⟨b + 1, 1, none⟩ = false := fun W0 hW => by
    rw [← hW, ← gr.2.1]
    exact ⟨World.grownBy_alloc _ _ none, by rw [World.size_alloc]; have := gr.2.1; omega, by clear hW; go_simp, by clear hW; go_simp, by clear hW; go_simp, by clear hW; go_simp⟩
  obtain ⟨W0, hW0⟩ : ∃ W0, W1.alloc (.cells #[.int .i64 0, .slice none 0 0] 53) = W0 := ⟨_, rfl⟩
  obtain ⟨hg0, hs0, r0, r1, f0, f1⟩ := gs W0 hW0
  rw [hW0] at HZ ⊢
  clear hW0 gs
  obtain ⟨hg1, hs1, b0, b1⟩ := gr
  have c0 := hg0.cell b0 (by simp)
  have c1 := hg0.cell b1 (by simp)
  have HW := Lib.hid (And.intro hg1 (And.intro hs1 (And.intro hg0 (And.intro hs0 (And.intro b0 b1)))))
  clear hg1 hs1 hg0 hs0 b0 b1
  go_loopg [6] k (fun gk s6 wr => ∃ i : Nat, s6 = .int .i64 (i : Int) ∧ gk = k - i ∧ i ≤ k ∧ (∃ q, wr = W0.drewN q) ∧ ∀ s ∈ ss.take i, 0 ≤ s ∧ s < (N : Int))
  case atStart => exact ⟨0, rfl, rfl, Nat.zero_le _, ⟨0, rfl⟩, fun s hs => by simp at hs⟩
  case round =>
    obtain ⟨i, rfl, hgk, hik, hwr, hall⟩ := hrel
    have hgr : W0.grownBy wr none := by obtain ⟨q, rfl⟩ := hwr; exact grown_drewN _ _ _
    have hfr : wr.frozen? ⟨b + 1, 0, none⟩ = false ∧ wr.frozen? ⟨b + 1, 1, none⟩ = false := by obtain ⟨q, rfl⟩ := hwr; exact ⟨f0, f1⟩
    obtain ⟨g0, g1⟩ := hfr
    have d0 := hgr.cell c0 (by simp)
    have d1 := hgr.cell c1 (by simp)
    have q0 := hgr.cell r0 (by simp)
    have q1 := hgr.cell r1 (by simp)
    have HGK := Lib.hid (And.intro hgk (And.intro hik (And.intro hall (And.intro hgr hwr)))); clear hgk hall hgr hwr
    by_cases hi : i < k
    · have hiB : decide (i < k) = true := by simpa using hi
      have hiI : (i : Int) < (k : Int) := by omega
      obtain ⟨s, hs⟩ : ∃ s, ss[i]? = some s := ⟨_, List.getElem?_eq_getElem (by have := HH.out.2.2.2.2.2; omega)⟩
      obtain ⟨tb, to, rfl, hcell⟩ := (HH.out.2.2.2.1.grown (HZ.out.trans HGK.out.2.2.2.1)).at hs
      have HS := Lib.hid hs; clear hs
      by_cases hbad : s < 0 ∨ (N : Int) ≤ s
      · have hcase : decide (s < 0) = true ∨ (decide (s < 0) = false ∧ decide ((N : Int) ≤ s) = true) := by
          by_cases h0 : s < 0
          · exact .inl (by simpa using h0)
          · exact .inr ⟨by simpa using h0, by simp; omega⟩
        have HF := Lib.hid (fits_not (N := N) (List.mem_of_getElem? HS.out) hbad)
        clear hbad
        rcases hcase with ds | ⟨ds, dN⟩
        all_goals
          go_wp2_with fail
          go_quiet (fail)
          obtain ⟨wq, hwq⟩ : ∃ wq, wr.drewN nq = wq := ⟨_, rfl⟩
          have hgq : wr.grownBy wq none := by rw [← hwq]; exact grown_drewN _ _ _
          have hfq : wq.frozen? ⟨b + 1, 0, none⟩ = false ∧ wq.frozen? ⟨b + 1, 1, none⟩ = false := by rw [← hwq]; exact ⟨g0, g1⟩
          obtain ⟨fq0, fq1⟩ := hfq
          have p0 := hgq.cell q0 (by simp)
          have p1 := hgq.cell q1 (by simp)
          have HGQ := Lib.hid hgq; clear hgq
          rw [hwq]
          clear hwq
          go_wp2
          have hr := res_set (x := 0) (v := .slice none 0 0) p0 p1
          refine bodyPost_ret (results29 _ _ (b + 1) none 0 0 0 rfl hr.1 hr.2) rfl ?_
          exact full_zero HH.out.2.2.2.2.1 HF.out (grown_own (grown_own ((HZ.out.trans HGK.out.2.2.2.1).trans HGQ.out) (grown_set _ _ _ _) (fun j hj => by cases hj; have := HWB.out; omega)) (grown_set _ _ _ _) (fun j hj => by cases hj; have := HWB.out; omega))
      have ds : decide (s < 0) = false := by simp; omega
      have dN : decide ((N : Int) ≤ s) = false := by simp; omega
      have HSN : Hid (0 ≤ s ∧ s < (N : Int)) := Lib.hid (by omega)
      clear hbad
      go_wp2_with fail
      go_quiet (fail)
      obtain ⟨wq, hwq⟩ : ∃ wq, wr.drewN nq = wq := ⟨_, rfl⟩
      have HWQ : Hid (∃ q, wq = W0.drewN q) := Lib.hid (by obtain ⟨q, hq⟩ := HGK.out.2.2.2.2; exact ⟨q + nq, by rw [← hwq, hq, World.drewN_drewN]⟩)
      rw [hwq]
      clear hwq
      go_wp2
      go_roundg (k - (i + 1))
      case measure => rw [HGK.out.1]; omega
      case rel =>
        refine ⟨i + 1, rfl, rfl, by omega, HWQ.out, fun y hy => ?_⟩
        rw [List.take_add_one, HS.out, Option.toList_some, List.mem_append] at hy
        rcases hy with hy | hy
        · exact HGK.out.2.2.1 y hy
        · simp at hy; subst hy; exact HSN.out
    · have hie : i = k := by omega
      subst hie
      have hiB : decide (i < i) = false := by simp
      have hall : ∀ s ∈ ss, 0 ≤ s ∧ s < (N : Int) := by
        have h1 := HGK.out.2.2.1
        rw [List.take_of_length_le (by rw [HH.out.2.2.2.2.2]; exact Nat.le_refl _)] at h1
        exact h1
      have hfit : fits N ss = true := by simp only [fits, decide_eq_true_eq, HH.out.2.2.2.2.2]; exact ⟨by omega, by omega, hall⟩
      have hsz : wr.heap.size = b + 2 := by obtain ⟨q, hq⟩ := HGK.out.2.2.2.2; rw [hq]; exact HW.out.2.2.2.1
      have hF0 := FuB.start W1 i (b + 1) wr (HW.out.2.2.1.trans HGK.out.2.2.2.1) (by have := HW.out.2.1; omega) ⟨by rw [q0]; rfl, g0⟩ ⟨by rw [q1]; rfl, g1⟩
      rw [hsz] at hF0
      have HF0 := Lib.hid hF0; clear hF0
      have hsum := sum_le HH.out.2.1
      have hzl := HH.out.2.2.1
      have hM0 : sum zs ^ i ≤ 20 ^ 3 := Nat.le_trans (Nat.pow_le_pow_left (by omega) i) (Nat.pow_le_pow_right (by omega) hk3)
      obtain ⟨M, hM⟩ : ∃ M, sum zs ^ i = M := ⟨_, rfl⟩
      rw [hM] at hM0
      have hM8 : M ≤ 8000 := by omega
      have hsk := HH.out.2.2.2.2.2
      have hRK : ∀ W : World, w.grownBy W none → Calls Try.prog 121 #[.agg #[.slice a N c, .int .i64 st], .int .i64 (i : Int)] W fun e w' => e = .returned (.int .i64 (M : Int)) ∧ W.grownBy w' none := fun W hW => by
        have hf := rRanks_calls zs a c st i W (HH.out.1.grown hW) HH.out.2.1 HH.out.2.2.1 hk3
        rw [HH.out.2.2.2.2.1, hM] at hf
        exact hf
      have hTU : ∀ (m : Nat) (W : World), m < M → w.grownBy W none → Calls Try.prog 122 #[.agg #[.slice a N c, .int .i64 st], .int .i64 (i : Int), .int .i64 (m : Int)] W fun e w' => ∃ a' c', e = .returned (.slice a' i c') ∧ Ints w' a' c' (ints (dig (sum zs) i m)) ∧ W.grownBy w' none := fun m W hm hW => by
        have hf := rTuple_calls zs a c st (i : Int) (m : Int) W (HH.out.1.grown hW) HH.out.2.1 HH.out.2.2.1 (by omega)
        have hN1 : 1 ≤ sum zs := by
          rcases Nat.eq_zero_or_pos (sum zs) with h0 | h0
          · rw [h0, Nat.zero_pow (by omega)] at hM; omega
          · exact h0
        have hlen : (ints (dig (sum zs) i m)).length = i := by rw [List.length_map, dig_length]
        rw [HH.out.2.2.2.2.1, tupI_in hk3 (.inl hN1) (by rw [hM]; exact hm), show (dig (sum zs) i m).map Int.ofNat = ints (dig (sum zs) i m) from rfl, hlen] at hf
        exact hf
      have hFI : ∀ (m : Nat) (W : World) (a' : Option Addr) (c' : Nat), w.grownBy W none → Ints W a' c' (ints (dig (sum zs) i m)) → Calls Try.prog 123 #[.agg #[.slice a N c, .int .i64 st], .slice a' i c', .slice ta i tc] W fun e w' => e = .returned (.bool (fitR zs (ints (dig (sum zs) i m)) ss)) ∧ W.grownBy w' none := fun m W a' c' hW hi => by
        have hlen : (ints (dig (sum zs) i m)).length = i := by rw [List.length_map, dig_length]
        have hf := rFits_calls zs a c st (ints (dig (sum zs) i m)) ss a' ta c' tc W (HH.out.1.grown hW) HH.out.2.1 HH.out.2.2.1 hi (HH.out.2.2.2.1.grown hW) (by rw [hlen, hsk]) (by omega)
        rw [HH.out.2.2.2.2.1, hlen, hsk] at hf
        exact hf
      have HC := Lib.hid (And.intro hRK (And.intro hTU hFI)); clear hRK hTU hFI
      have HRES : Hid (fullK N ss = i ∧ fullL zs ss = ints (fitTo zs ss M)) := Lib.hid ⟨by simp only [fullK, hfit, if_true]; exact hsk, by
        have h1 := fitTo_digs (zs := zs) (fun s hs => (hall s hs).1) (by rw [hsk]; omega)
        rw [hsk, hM] at h1
        simp only [fullL, HH.out.2.2.2.2.1, hfit, if_true]; rw [h1]⟩
      have HSK := Lib.hid hsk
      clear hall hfit hsum hzl hM0 hM hsk
      go_wp2_with fail
      obtain ⟨W5, hW5⟩ : ∃ W5, wr.alloc (.cells #[.int .i64 (i : Int), .slice none 0 0] 53) = W5 := ⟨_, rfl⟩
      rw [hW5] at HF0 ⊢
      clear hW5 hsz d0 d1 q0 q1 c0 c1 r0 r1 f0 f1 g0 g1
      go_loopg [8, 9] M (fun gk s8 s9 wx => ∃ m : Nat, s8 = .int .i64 (m : Int) ∧ gk = M - m ∧ m ≤ M ∧ FuB W1 wx (b + 2) (b + 1) (b + 3) i (ints (fitTo zs ss m)))
      case atStart => exact ⟨0, rfl, rfl, Nat.zero_le _, HF0.out⟩
      case round =>
        obtain ⟨m, rfl, hgm, hm, hF⟩ := hrel
        have d0 := hF.grown.cell HW.out.2.2.2.2.1 (by simp)
        have d1 := hF.grown.cell HW.out.2.2.2.2.2 (by simp)
        have HF := Lib.hid hF; clear hF
        have HGM := Lib.hid hgm; clear hgm
        go_wp2_with fail
        refine (HC.out.1 _ (HW.out.1.trans HF.out.grown)).mono ?_
        rintro e w2 ⟨rfl, g2⟩
        have hF2 := HF.out.quiet (C := W1.heap.size) (Nat.le_refl _) (.of_none g2)
        clear d0 d1 g2
        have d0 := hF2.grown.cell HW.out.2.2.2.2.1 (by simp)
        have d1 := hF2.grown.cell HW.out.2.2.2.2.2 (by simp)
        have HF2 := Lib.hid hF2; clear hF2
        by_cases hmM : m < M
        · have hmB : decide (m < M) = true := by simpa using hmM
          go_wp2_with fail
          refine (HC.out.2.1 m _ hmM (HW.out.1.trans HF2.out.grown)).mono ?_
          rintro e w3 ⟨a3, c3, rfl, hi3, g3⟩
          have hF3 := HF2.out.quiet (C := W1.heap.size) (Nat.le_refl _) (.of_none g3)
          clear d0 d1 g3
          have d0 := hF3.grown.cell HW.out.2.2.2.2.1 (by simp)
          have d1 := hF3.grown.cell HW.out.2.2.2.2.2 (by simp)
          have HF3 := Lib.hid (And.intro hF3 hi3); clear hF3 hi3
          go_wp2_with fail
          refine (HC.out.2.2 m _ a3 c3 (HW.out.1.trans HF3.out.1.grown) HF3.out.2).mono ?_
          rintro e w4 ⟨rfl, g4⟩
          have hF4 := HF3.out.1.quiet (C := W1.heap.size) (Nat.le_refl _) (.of_none g4)
          have hB4 := hF4.low.2.2.2
          obtain ⟨v, hv, hown⟩ := hF4.row
          have hfr4 := hF4.fr
          clear d0 d1 g4
          have HF4 := Lib.hid hF4; clear hF4
          have HNX := Lib.hid (fitTo_succ zs ss m)
          rw [HSK.out] at HNX
          have hpl := fitTo_length zs ss m
          obtain ⟨B, hB⟩ : ∃ B, fitR zs (ints (dig (sum zs) i m)) ss = B := ⟨_, rfl⟩
          rw [hB] at HNX ⊢
          clear hB
          cases B with
          | true =>
            have hlen : (ints (fitTo zs ss m)).length = (fitTo zs ss m).length := List.length_map _
            rw [← hlen] at hpl
            obtain ⟨P, hP⟩ : ∃ P, ints (fitTo zs ss m) = P := ⟨_, rfl⟩
            rw [hP] at hown hpl HF4
            have HP := Lib.hid hP
            clear hP hlen
            obtain ⟨va, vc, rfl⟩ := own_shape hown
            have HO := Lib.hid hown; clear hown
            go_wp2_with (at_builtin; refine wpList_append_own_at _ rfl _ _ 28 rfl (b + 3) 3 i0 (.int .i64 0) 1 8 Try.underlying28 hi0 hz0 hz1 hz2 rfl (by decide) _ _ _ rfl (HO.out.alloc _) ⟨w4.heap.size, 0, none⟩ 1 1 [.int .i64 (m : Int)] rfl rfl (cell_one_new _ _ _) (fun u hu => by simp at hu; subst hu; rfl) (by unfold maxLen; omega) (by omega) (by simp; omega) ?_; intro v' w5 hown' hgrow5 hnil5 hat5; obtain ⟨g', cap', rfl⟩ := own_shape hown'; obtain ⟨hs1, hs2⟩ := HF4.out.at_ hv HO.out hgrow5)
            have HS := Lib.hid (HF4.out.step hv HO.out hgrow5 hown' hat5).1
            clear hown' hgrow5 hnil5 hat5
            go_wp2
            go_roundg (M - (m + 1))
            case measure => rw [HGM.out]; omega
            case rel => exact ⟨m + 1, rfl, rfl, by omega, by rw [HNX.out, if_pos (by simp), show ints (fitTo zs ss m ++ [m]) = ints (fitTo zs ss m) ++ [(m : Int)] by rw [ints, List.map_append]; rfl, HP.out]; exact HS.out⟩
          | false =>
            clear hown
            go_wp2_with fail
            go_roundg (M - (m + 1))
            case measure => rw [HGM.out]; omega
            case rel => exact ⟨m + 1, rfl, rfl, by omega, by rw [HNX.out, if_neg (by simp)]; exact HF4.out⟩
        · have hme : m = M := by omega
          subst hme
          have hmB : decide (m < m) = false := by simp
          obtain ⟨v, hv, hown⟩ := HF2.out.row
          obtain ⟨va, vc, rfl, hints⟩ := own_ints hown
          have q0 := HF2.out.c0
          obtain ⟨u0, hu0⟩ := Option.isSome_iff_exists.1 HF2.out.r0.1
          obtain ⟨u1, hu1⟩ := Option.isSome_iff_exists.1 HF2.out.r1.1
          have f0 := HF2.out.r0.2
          have f1 := HF2.out.r1.2
          have HI := Lib.hid (And.intro hown hints); clear hown hints
          obtain ⟨n, hn⟩ : ∃ n, (ints (fitTo zs ss m)).length = n := ⟨_, rfl⟩
          rw [hn] at hv
          have HN := Lib.hid hn; clear hn
          go_wp2_with fail
          have hr := res_set (x := (i : Int)) (v := .slice va n vc) hu0 hu1
          refine bodyPost_ret (results29 _ _ (b + 1) va n vc i rfl hr.1 hr.2) rfl ?_
          have hk1' := HI.out.1.kept (grown_set w2 (b + 1) 0 (.int .i64 (i : Int))) (own_ne HI.out.1 (by omega))
          have hk2 := hk1'.kept (grown_set _ (b + 1) 1 (.slice va n vc)) (own_ne hk1' (by omega))
          obtain ⟨a', c', he, hnm⟩ := own_ints hk2
          injection he with e1 e2 e3
          subst e1; subst e3
          refine ⟨va, vc, by rw [HRES.out.1, HRES.out.2, HN.out], by rw [HRES.out.2]; exact hnm, ?_⟩
          have hwb := HWB.out
          exact grown_own (grown_own (HW.out.1.trans HF2.out.grown) (grown_set _ _ _ _) (fun j hj => by cases hj; omega)) (grown_set _ _ _ _) (fun j hj => by cases hj; omega)
end Go.Proofs.Ytbddpjofhddilaa
/- Relations, states and rows of states in memory. -/
namespace Go.Proofs.Ytbddpjofhddilaa
open Go.RowKit

/-- A row of integers that is read: where it is empty, nothing is known of its place. -/
def IntsW (w : World) (a : Option Addr) (c : Nat) (zs : List Int) : Prop :=
  zs.length ≤ c ∧ (zs = [] ∨ ∃ b o, a = some ⟨b, o, none⟩ ∧ ∀ (j : Nat) (z : Int), zs[j]? = some z → w.cell? ⟨b, o + j, none⟩ = some (.int .i64 z))
theorem Ints.weak {w : World} {a : Option Addr} {c : Nat} {zs : List Int} (h : Ints w a c zs) : IntsW w a c zs := by
  obtain ⟨hc, h | ⟨b, o, ha, _, hz⟩⟩ := h
  · exact ⟨hc, .inl h.1⟩
  · exact ⟨hc, .inr ⟨b, o, ha, hz⟩⟩
theorem IntsW.grown {w w' : World} {a : Option Addr} {c : Nat} {zs : List Int} (h : IntsW w a c zs) (hg : w.grownBy w' none) : IntsW w' a c zs := by
  obtain ⟨hc, h | ⟨b, o, ha, hz⟩⟩ := h
  · exact ⟨hc, .inl h⟩
  · exact ⟨hc, .inr ⟨b, o, ha, fun j z hj => hg.cell (hz j z hj) (by simp)⟩⟩
theorem IntsW.at {w : World} {a : Option Addr} {c : Nat} {zs : List Int} (h : IntsW w a c zs) {i : Nat} {z : Int} (hz : zs[i]? = some z) : ∃ b o, a = some ⟨b, o, none⟩ ∧ w.cell? ⟨b, o + i, none⟩ = some (.int .i64 z) := by
  obtain ⟨_, h | ⟨b, o, ha, hc⟩⟩ := h
  · rw [h] at hz; simp at hz
  · exact ⟨b, o, ha, hc i z hz⟩
theorem lies_lt {w : World} {a : Addr} {v : Value} (h : w.cell? a = some v) : a.block < w.heap.size := by
  unfold World.cell? at h
  split at h
  · rename_i hb; exact (Array.getElem?_eq_some_iff.1 hb).1
  · cases h
theorem IntsW.strict {w : World} {a : Option Addr} {c : Nat} {zs : List Int} (h : IntsW w a c zs) (hne : zs ≠ []) : Ints w a c zs := by
  obtain ⟨hc, h | ⟨b, o, ha, hz⟩⟩ := h
  · exact absurd h hne
  · refine ⟨hc, .inr ⟨b, o, ha, ?_, hz⟩⟩
    cases zs with
    | nil => exact absurd rfl hne
    | cons z l => exact lies_lt (hz 0 z rfl)
theorem ints_nil (w : World) : Ints w none 0 [] := ⟨Nat.le_refl _, .inl ⟨rfl, rfl, rfl⟩⟩
theorem intsW_nil (w : World) (a : Option Addr) (c : Nat) : IntsW w a c [] := ⟨Nat.zero_le _, .inl rfl⟩
/-- A relation: its arity, its tuples. -/
abbrev Rl := Int × List Int
def RelAt (w : World) (b o : Nat) (r : Rl) : Prop :=
  w.cell? ⟨b, o, none⟩ = some (.int .i64 r.1) ∧ ∃ a c, w.cell? ⟨b, o + 1, none⟩ = some (.slice a r.2.length c) ∧ IntsW w a c r.2
theorem RelAt.grown {w w' : World} {b o : Nat} {r : Rl} (h : RelAt w b o r) (hg : w.grownBy w' none) : RelAt w' b o r := by
  obtain ⟨h0, a, c, h1, hi⟩ := h
  exact ⟨hg.cell h0 (by simp), a, c, hg.cell h1 (by simp), hi.grown hg⟩
/-- A row of relations that is read. -/
def Rels (w : World) (a : Option Addr) (c : Nat) (l : List Rl) : Prop :=
  l.length ≤ c ∧ ∀ (j : Nat) (r : Rl), l[j]? = some r → ∃ b o, a = some ⟨b, o, none⟩ ∧ RelAt w b (o + j * 2) r
theorem Rels.grown {w w' : World} {a : Option Addr} {c : Nat} {l : List Rl} (h : Rels w a c l) (hg : w.grownBy w' none) : Rels w' a c l :=
  ⟨h.1, fun j x hj => by obtain ⟨b, o, ha, hc⟩ := h.2 j x hj; exact ⟨b, o, ha, hc.grown hg⟩⟩
theorem rels_nil (w : World) : Rels w none 0 [] := ⟨Nat.le_refl _, fun j z hj => by simp at hj⟩
/-- A row of states that is read. -/
def Sts (w : World) (a : Option Addr) (c : Nat) (L : List (List Rl)) : Prop :=
  L.length ≤ c ∧ ∀ (j : Nat) (l : List Rl), L[j]? = some l → ∃ b o, a = some ⟨b, o, none⟩ ∧ ∃ a' c', w.cell? ⟨b, o + j, none⟩ = some (.slice a' l.length c') ∧ Rels w a' c' l
theorem Sts.grown {w w' : World} {a : Option Addr} {c : Nat} {L : List (List Rl)} (h : Sts w a c L) (hg : w.grownBy w' none) : Sts w' a c L :=
  ⟨h.1, fun j x hj => by obtain ⟨b, o, ha, a', c', h0, hc⟩ := h.2 j x hj; exact ⟨b, o, ha, a', c', hg.cell h0 (by simp), hc.grown hg⟩⟩
theorem sts_nil (w : World) : Sts w none 0 [] := ⟨Nat.le_refl _, fun j z hj => by simp at hj⟩

/-- Lengths that fit. -/
def Len (l : List Rl) : Prop := (l.length : Int) ≤ 9223372036854775807 ∧ ∀ r ∈ l, (r.2.length : Int) ≤ 9223372036854775807
def Lens (L : List (List Rl)) : Prop := (L.length : Int) ≤ 9223372036854775807 ∧ ∀ l ∈ L, Len l

theorem list_ne {α : Type} {xs ys : List α} {i : Nat} {x y : α} (hx : xs[i]? = some x) (hy : ys[i]? = some y) (h : x ≠ y) : xs ≠ ys := by
  rintro rfl; rw [hx] at hy; cases hy; exact h rfl
theorem list_eq {α : Type} {xs ys : List α} {n : Nat} (hx : xs.length = n) (hy : ys.length = n) (h : ∀ j, j < n → xs[j]? = ys[j]?) : xs = ys := by
  apply List.ext_getElem?
  intro j
  by_cases hj : j < n
  · exact h j hj
  · rw [List.getElem?_eq_none (by omega), List.getElem?_eq_none (by omega)]
theorem agree_step {α : Type} {xs ys : List α} {i : Nat} (h : ∀ j, j < i → xs[j]? = ys[j]?) (hi : xs[i]? = ys[i]?) : ∀ j, j < i + 1 → xs[j]? = ys[j]? := by
  intro j hj
  by_cases hji : j < i
  · exact h j hji
  · have : j = i := by omega
    subst this; exact hi
end Go.Proofs.Ytbddpjofhddilaa
/- Two relations, two states are compared. -/
namespace Go.Proofs.Ytbddpjofhddilaa
open Go.RowKit

set_option maxHeartbeats 1000000 in
theorem equalInts_calls (xs ys : List Int) (a a' : Option Addr) (c c' : Nat) (w : World) (h : IntsW w a c xs) (h' : IntsW w a' c' ys) (hl : (xs.length : Int) ≤ 9223372036854775807) :
    Calls Try.prog 75 #[.slice a xs.length c, .slice a' ys.length c'] w fun e w' => e = .returned (.bool (decide (xs = ys))) ∧ ∃ q, w' = w.drewN q := by
  obtain ⟨n, hn⟩ : ∃ n, xs.length = n := ⟨_, rfl⟩
  obtain ⟨m, hm⟩ : ∃ m, ys.length = m := ⟨_, rfl⟩
  rw [hn] at hl ⊢
  rw [hm]
  have HN := Lib.hid (And.intro hn hm)
  have HH := Lib.hid (And.intro h h'); clear h h'
  by_cases hnm : n = m
  · have hB : ((n : Int) != (m : Int)) = false := by simp; omega
    subst hnm
    clear hn hm
    go_enter Try.func75, Try.ntmps75
    go_wp2
    go_loopg [13] n (fun g s5 wr => ∃ i : Nat, s5 = .int .i64 (i : Int) ∧ g = n - i ∧ i ≤ n ∧ (∀ j, j < i → xs[j]? = ys[j]?) ∧ ∃ q, wr = w.drewN q)
    case atStart => exact ⟨0, rfl, rfl, Nat.zero_le _, fun j hj => absurd hj (Nat.not_lt_zero _), 0, rfl⟩
    case round =>
      obtain ⟨i, rfl, hgi, hi, hok, q, rfl⟩ := hrel
      have HGI := Lib.hid (And.intro hgi hok); clear hgi hok
      by_cases hin : i < n
      · have hinB : decide (i < n) = true := by simpa using hin
        have hinI : (i : Int) < (n : Int) := by omega
        obtain ⟨x, hx⟩ : ∃ x, xs[i]? = some x := ⟨_, List.getElem?_eq_getElem (by rw [HN.out.1]; exact hin)⟩
        obtain ⟨y, hy⟩ : ∃ y, ys[i]? = some y := ⟨_, List.getElem?_eq_getElem (by rw [HN.out.2]; exact hin)⟩
        obtain ⟨b, o, rfl, hcell⟩ := HH.out.1.at hx
        obtain ⟨b', o', rfl, hcell'⟩ := HH.out.2.at hy
        have HX := Lib.hid (And.intro hx hy); clear hx hy
        by_cases hxy : x = y
        · subst hxy
          have hb2 : (x != x) = false := by simp
          go_wp2
          go_quiet (fail)
          go_wp2
          go_roundg (n - (i + 1))
          case measure => rw [HGI.out.1]; omega
          case rel => exact ⟨i + 1, rfl, rfl, by omega, agree_step HGI.out.2 (by rw [HX.out.1, HX.out.2]), _, rfl⟩
        · have hb2 : (x != y) = true := by simpa using hxy
          have HR : Hid (decide (xs = ys) = false) := Lib.hid (decide_eq_false (list_ne HX.out.1 HX.out.2 hxy))
          clear hxy
          go_wp2
          go_quiet (fail)
          go_wp2
          go_ret
          exact ⟨by rw [HR.out]; rfl, _, World.drewN_drewN _ _ _⟩
      · have hie : i = n := by omega
        subst hie
        have hinB : decide (i < i) = false := by simp
        have HR : Hid (decide (xs = ys) = true) := Lib.hid (decide_eq_true (list_eq HN.out.1 HN.out.2 HGI.out.2))
        go_wp2
        go_ret
        exact ⟨by rw [HR.out]; rfl, _, rfl⟩
  · have hB : ((n : Int) != (m : Int)) = true := by simp; omega
    have HR : Hid (decide (xs = ys) = false) := Lib.hid (decide_eq_false (by rintro rfl; omega))
    clear hn hm
    go_enter Try.func75, Try.ntmps75
    go_wp2
    go_ret
    exact ⟨by rw [HR.out]; rfl, 0, rfl⟩

set_option maxHeartbeats 1000000 in
theorem relEqual_calls (x y : Rl) (a a' : Option Addr) (c c' : Nat) (w : World) (h : IntsW w a c x.2) (h' : IntsW w a' c' y.2) (hl : (x.2.length : Int) ≤ 9223372036854775807) :
    Calls Try.prog 67 #[.agg #[.int .i64 x.1, .slice a x.2.length c], .agg #[.int .i64 y.1, .slice a' y.2.length c']] w
      fun e w' => e = .returned (.bool (decide (x = y))) ∧ w.grownBy w' none := by
  obtain ⟨kx, lx⟩ := x
  obtain ⟨ky, ly⟩ := y
  simp only at h h' hl ⊢
  obtain ⟨n, hn⟩ : ∃ n, lx.length = n := ⟨_, rfl⟩
  obtain ⟨m, hm⟩ : ∃ m, ly.length = m := ⟨_, rfl⟩
  have HL := Lib.hid hl; clear hl
  have HH := Lib.hid (And.intro h h'); clear h h'
  have hg : w.grownBy ((w.alloc (.cells #[.int .i64 kx, .slice a lx.length c] 53)).alloc (.cells #[.int .i64 ky, .slice a' ly.length c'] 53)) none := (World.grownBy_alloc _ _ none).trans (World.grownBy_alloc _ _ none)
  rw [hn, hm] at hg ⊢
  have HG := Lib.hid hg; clear hg
  have HN := Lib.hid (And.intro hn hm); clear hn hm
  by_cases hk : kx = ky
  · have k1 : (kx == ky) = true := by simpa using hk
    subst hk
    go_enter Try.func67, Try.ntmps67
    go_wp2_with fail
    have hc := equalInts_calls lx ly a a' c c' _ (HH.out.1.grown HG.out) (HH.out.2.grown HG.out) HL.out
    rw [HN.out.1, HN.out.2] at hc
    refine hc.mono ?_
    clear hc
    rintro e w' ⟨rfl, q, rfl⟩
    have HR : Hid (decide ((kx, lx) = (kx, ly)) = decide (lx = ly)) := Lib.hid (by congr 1; simp)
    go_wp2
    go_ret
    exact ⟨by rw [HR.out]; rfl, HG.out.trans (grown_drewN _ _ _)⟩
  · have k1 : (kx == ky) = false := by simpa using hk
    have HR : Hid (decide ((kx, lx) = (ky, ly)) = false) := Lib.hid (decide_eq_false (by intro e; injection e with e _; exact hk e))
    clear hk
    go_enter Try.func67, Try.ntmps67
    go_wp2_with fail
    go_ret
    exact ⟨by rw [HR.out]; rfl, HG.out⟩

set_option maxHeartbeats 2000000 in
theorem equalRels_calls (l m : List Rl) (a a' : Option Addr) (c c' : Nat) (w : World) (h : Rels w a c l) (h' : Rels w a' c' m) (hlen : Len l) :
    Calls Try.prog 117 #[.slice a l.length c, .slice a' m.length c', .func (.func 67) #[] #[]] w fun e w' => e = .returned (.bool (decide (l = m))) ∧ w.grownBy w' none := by
  obtain ⟨hl, hlits⟩ := hlen
  obtain ⟨n, hn⟩ : ∃ n, l.length = n := ⟨_, rfl⟩
  obtain ⟨n', hn'⟩ : ∃ n', m.length = n' := ⟨_, rfl⟩
  rw [hn] at hl ⊢
  rw [hn']
  have HN := Lib.hid (And.intro hn hn')
  have HH := Lib.hid (And.intro h (And.intro h' hlits)); clear h h' hlits
  by_cases hnm : n = n'
  · have hB : ((n : Int) != (n' : Int)) = false := by simp; omega
    subst hnm
    clear hn hn'
    go_enter Try.func117, Try.ntmps117
    go_wp2
    go_loopg [17] n (fun g s5 wr => ∃ i : Nat, s5 = .int .i64 (i : Int) ∧ g = n - i ∧ i ≤ n ∧ (∀ j, j < i → l[j]? = m[j]?) ∧ w.grownBy wr none)
    case atStart => exact ⟨0, rfl, rfl, Nat.zero_le _, fun j hj => absurd hj (Nat.not_lt_zero _), grown_refl _ _⟩
    case round =>
      obtain ⟨i, rfl, hgi, hi, hok, hgr⟩ := hrel
      have HGI := Lib.hid (And.intro hgi (And.intro hok hgr)); clear hgi hok hgr
      by_cases hin : i < n
      · have hinB : decide (i < n) = true := by simpa using hin
        have hinI : (i : Int) < (n : Int) := by omega
        obtain ⟨x, hx⟩ : ∃ x, l[i]? = some x := ⟨_, List.getElem?_eq_getElem (by rw [HN.out.1]; exact hin)⟩
        obtain ⟨y, hy⟩ : ∃ y, m[i]? = some y := ⟨_, List.getElem?_eq_getElem (by rw [HN.out.2]; exact hin)⟩
        obtain ⟨b, o, rfl, c0, la, lc, c1, hints⟩ := (HH.out.1.grown HGI.out.2.2).2 i x hx
        obtain ⟨b', o', rfl, d0, la', lc', d1, hints'⟩ := (HH.out.2.1.grown HGI.out.2.2).2 i y hy
        have HK := Lib.hid (HH.out.2.2 x (List.mem_of_getElem? hx))
        have HX := Lib.hid (And.intro hx hy); clear hx hy
        have HI := Lib.hid (And.intro hints hints'); clear hints hints'
        have ga := World.grownBy_alloc wr (.cells #[.int .i64 x.1, .slice la x.2.length lc] 53) none
        have f0 := ga.cell d0 (by simp)
        have f1 := ga.cell d1 (by simp)
        have HB := Lib.hid (ga.trans (World.grownBy_alloc _ (.cells #[.int .i64 y.1, .slice la' y.2.length lc'] 53) none))
        clear ga d0 d1
        go_wp2_with fail
        refine (relEqual_calls x y la la' lc lc' _ (HI.out.1.grown HB.out) (HI.out.2.grown HB.out) HK.out).mono ?_
        rintro e w' ⟨rfl, hg⟩
        have HG := Lib.hid (HGI.out.2.2.trans (HB.out.trans hg)); clear hg
        by_cases hxy : x = y
        · have HE : Hid (l[i]? = m[i]?) := Lib.hid (by rw [HX.out.1, HX.out.2, hxy])
          obtain ⟨B, hBB⟩ : ∃ B, decide (x = y) = B := ⟨_, rfl⟩
          have hBt : B = true := by rw [← hBB]; exact decide_eq_true hxy
          rw [hBB]
          subst hBt
          clear hBB hxy
          go_wp2_with fail
          go_roundg (n - (i + 1))
          case measure => rw [HGI.out.1]; omega
          case rel => exact ⟨i + 1, rfl, rfl, by omega, agree_step HGI.out.2.1 HE.out, HG.out⟩
        · have HR : Hid (decide (l = m) = false) := Lib.hid (decide_eq_false (list_ne HX.out.1 HX.out.2 hxy))
          obtain ⟨B, hBB⟩ : ∃ B, decide (x = y) = B := ⟨_, rfl⟩
          have hBt : B = false := by rw [← hBB]; exact decide_eq_false hxy
          rw [hBB]
          subst hBt
          clear hBB hxy
          go_wp2_with fail
          go_ret
          exact ⟨by rw [HR.out]; rfl, HG.out⟩
      · have hie : i = n := by omega
        subst hie
        have hinB : decide (i < i) = false := by simp
        have HR : Hid (decide (l = m) = true) := Lib.hid (decide_eq_true (list_eq HN.out.1 HN.out.2 HGI.out.2.1))
        go_wp2
        go_ret
        exact ⟨by rw [HR.out]; rfl, HGI.out.2.2⟩
  · have hB : ((n : Int) != (n' : Int)) = true := by simp; omega
    have HR : Hid (decide (l = m) = false) := Lib.hid (decide_eq_false (by rintro rfl; omega))
    clear hn hn'
    go_enter Try.func117, Try.ntmps117
    go_wp2
    go_ret
    exact ⟨by rw [HR.out]; rfl, grown_refl _ _⟩

set_option maxHeartbeats 1000000 in
theorem equalStates_calls (l m : List Rl) (a a' : Option Addr) (c c' : Nat) (w : World) (h : Rels w a c l) (h' : Rels w a' c' m) (hl : Len l) :
    Calls Try.prog 77 #[.slice a l.length c, .slice a' m.length c'] w fun e w' => e = .returned (.bool (decide (l = m))) ∧ w.grownBy w' none := by
  go_enter Try.func77, Try.ntmps77
  go_wp2_with fail
  refine (equalRels_calls l m a a' c c' w h h' hl).mono ?_
  rintro e w' ⟨rfl, hg⟩
  have HG := Lib.hid hg; clear hg
  go_wp2
  go_ret
  exact ⟨rfl, HG.out⟩
end Go.Proofs.Ytbddpjofhddilaa
/- Looped models, the next state, the index of a time. -/
namespace Go.Proofs.Ytbddpjofhddilaa
open Go.RowKit

def loopedB (k : Nat) (lp : Int) : Bool := decide (1 ≤ k) && decide (k ≤ 64) && decide (0 ≤ lp) && decide (lp < (k : Int))
theorem loopedB_iff {k : Nat} {lp : Int} : loopedB k lp = true ↔ 1 ≤ k ∧ k ≤ 64 ∧ 0 ≤ lp ∧ lp < (k : Int) := by simp [loopedB, and_assoc]
def nextI (k : Nat) (lp s : Int) : Int := if s < 0 ∨ (k : Int) ≤ s then 0 else if s = (k : Int) - 1 then lp else s + 1
def indexI (k : Nat) (lp t : Int) : Int := if t < (k : Int) then t else lp + (t - lp) % ((k : Int) - lp)

set_option maxRecDepth 100000 in
set_option maxHeartbeats 1000000 in
theorem looped_calls (sa : Option Addr) (n sc : Nat) (st : Int) (ta : Option Addr) (k tc : Nat) (lp : Int) (w : World) :
    Calls Try.prog 64 #[.agg #[.slice sa n sc, .int .i64 st, .slice ta k tc, .int .i64 lp]] w fun e w' => e = .returned (.bool (loopedB k lp)) ∧ w.grownBy w' none := by
  have HG := Lib.hid (World.grownBy_alloc w (.cells #[.slice sa n sc, .int .i64 st, .slice ta k tc, .int .i64 lp] 33) none)
  by_cases c0 : k = 0
  · have HR : Hid (loopedB k lp = false) := Lib.hid (by cases h : loopedB k lp with | false => rfl | true => have := loopedB_iff.1 h; omega)
    subst c0
    skip
    go_enter Try.func64, Try.ntmps64
    go_wp2_with fail
    go_ret
    exact ⟨by rw [HR.out]; rfl, HG.out⟩
  have f00 : decide (0 < k) = true := decide_eq_true (by omega)
  have f01 : decide ((0 : Int) < (k : Int)) = true := decide_eq_true (by omega)
  have f02 : decide (1 ≤ k) = true := decide_eq_true (by omega)
  have f03 : decide ((1 : Int) ≤ (k : Int)) = true := decide_eq_true (by omega)
  by_cases c1 : 64 < k
  · have HR : Hid (loopedB k lp = false) := Lib.hid (by cases h : loopedB k lp with | false => rfl | true => have := loopedB_iff.1 h; omega)
    have f10 : decide (k ≤ 64) = false := decide_eq_false (by omega)
    have f11 : decide ((k : Int) ≤ 64) = false := decide_eq_false (by omega)
    clear c0 c1
    go_enter Try.func64, Try.ntmps64
    go_wp2_with fail
    go_ret
    exact ⟨by rw [HR.out]; rfl, HG.out⟩
  have f10 : decide (k ≤ 64) = true := decide_eq_true (by omega)
  have f11 : decide ((k : Int) ≤ 64) = true := decide_eq_true (by omega)
  by_cases c2 : lp < 0
  · have HR : Hid (loopedB k lp = false) := Lib.hid (by cases h : loopedB k lp with | false => rfl | true => have := loopedB_iff.1 h; omega)
    have f20 : decide (0 ≤ lp) = false := decide_eq_false (by omega)
    clear c0 c1 c2
    go_enter Try.func64, Try.ntmps64
    go_wp2_with fail
    go_ret
    exact ⟨by rw [HR.out]; rfl, HG.out⟩
  have f20 : decide (0 ≤ lp) = true := decide_eq_true (by omega)
  by_cases c3 : (k : Int) ≤ lp
  · have HR : Hid (loopedB k lp = false) := Lib.hid (by cases h : loopedB k lp with | false => rfl | true => have := loopedB_iff.1 h; omega)
    have f30 : decide (lp < (k : Int)) = false := decide_eq_false (by omega)
    clear c0 c1 c2 c3
    go_enter Try.func64, Try.ntmps64
    go_wp2_with fail
    go_ret
    exact ⟨by rw [HR.out]; rfl, HG.out⟩
  have f30 : decide (lp < (k : Int)) = true := decide_eq_true (by omega)
  have HR : Hid (loopedB k lp = true) := Lib.hid (loopedB_iff.2 (by omega))
  clear c0 c1 c2 c3
  go_enter Try.func64, Try.ntmps64
  go_wp2_with fail
  go_ret
  exact ⟨by rw [HR.out]; rfl, HG.out⟩

set_option maxRecDepth 100000 in
set_option maxHeartbeats 1000000 in
theorem rLooped_calls (sa : Option Addr) (n sc : Nat) (st : Int) (ta : Option Addr) (k tc : Nat) (lp : Int) (w : World) :
    Calls Try.prog 22 #[.agg #[.slice sa n sc, .int .i64 st, .slice ta k tc, .int .i64 lp]] w fun e w' => e = .returned (.bool (loopedB k lp)) ∧ w.grownBy w' none := by
  have HG := Lib.hid (World.grownBy_alloc w (.cells #[.slice sa n sc, .int .i64 st, .slice ta k tc, .int .i64 lp] 33) none)
  by_cases c0 : k = 0
  · have HR : Hid (loopedB k lp = false) := Lib.hid (by cases h : loopedB k lp with | false => rfl | true => have := loopedB_iff.1 h; omega)
    subst c0
    skip
    go_enter Try.func22, Try.ntmps22
    go_wp2_with fail
    go_ret
    exact ⟨by rw [HR.out]; rfl, HG.out⟩
  have f00 : decide (0 < k) = true := decide_eq_true (by omega)
  have f01 : decide ((0 : Int) < (k : Int)) = true := decide_eq_true (by omega)
  have f02 : decide (1 ≤ k) = true := decide_eq_true (by omega)
  have f03 : decide ((1 : Int) ≤ (k : Int)) = true := decide_eq_true (by omega)
  by_cases c1 : 64 < k
  · have HR : Hid (loopedB k lp = false) := Lib.hid (by cases h : loopedB k lp with | false => rfl | true => have := loopedB_iff.1 h; omega)
    have f10 : decide (k ≤ 64) = false := decide_eq_false (by omega)
    have f11 : decide ((k : Int) ≤ 64) = false := decide_eq_false (by omega)
    clear c0 c1
    go_enter Try.func22, Try.ntmps22
    go_wp2_with fail
    go_ret
    exact ⟨by rw [HR.out]; rfl, HG.out⟩
  have f10 : decide (k ≤ 64) = true := decide_eq_true (by omega)
  have f11 : decide ((k : Int) ≤ 64) = true := decide_eq_true (by omega)
  by_cases c2 : lp < 0
  · have HR : Hid (loopedB k lp = false) := Lib.hid (by cases h : loopedB k lp with | false => rfl | true => have := loopedB_iff.1 h; omega)
    have f20 : decide (0 ≤ lp) = false := decide_eq_false (by omega)
    clear c0 c1 c2
    go_enter Try.func22, Try.ntmps22
    go_wp2_with fail
    go_ret
    exact ⟨by rw [HR.out]; rfl, HG.out⟩
  have f20 : decide (0 ≤ lp) = true := decide_eq_true (by omega)
  by_cases c3 : (k : Int) ≤ lp
  · have HR : Hid (loopedB k lp = false) := Lib.hid (by cases h : loopedB k lp with | false => rfl | true => have := loopedB_iff.1 h; omega)
    have f30 : decide (lp < (k : Int)) = false := decide_eq_false (by omega)
    clear c0 c1 c2 c3
    go_enter Try.func22, Try.ntmps22
    go_wp2_with fail
    go_ret
    exact ⟨by rw [HR.out]; rfl, HG.out⟩
  have f30 : decide (lp < (k : Int)) = true := decide_eq_true (by omega)
  have HR : Hid (loopedB k lp = true) := Lib.hid (loopedB_iff.2 (by omega))
  clear c0 c1 c2 c3
  go_enter Try.func22, Try.ntmps22
  go_wp2_with fail
  go_ret
  exact ⟨by rw [HR.out]; rfl, HG.out⟩

set_option maxRecDepth 100000 in
set_option maxHeartbeats 1000000 in
theorem next_calls (sa : Option Addr) (n sc : Nat) (st : Int) (ta : Option Addr) (k tc : Nat) (lp : Int) (s : Int) (w : World) (hk : (k : Int) ≤ 9223372036854775807) (hs0 : -9223372036854775808 ≤ s) (hs1 : s ≤ 9223372036854775807) :
    Calls Try.prog 23 #[.agg #[.slice sa n sc, .int .i64 st, .slice ta k tc, .int .i64 lp], .int .i64 s] w fun e w' => e = .returned (.int .i64 (nextI k lp s)) ∧ w.grownBy w' none := by
  have HG := Lib.hid (World.grownBy_alloc w (.cells #[.slice sa n sc, .int .i64 st, .slice ta k tc, .int .i64 lp] 33) none)
  by_cases c0 : s < 0
  · have HR : Hid (nextI k lp s = 0) := Lib.hid (by unfold nextI; rw [if_pos (.inl c0)])
    have f0 : decide (s < 0) = true := decide_eq_true c0
    clear c0
    go_enter Try.func23, Try.ntmps23
    go_wp2_with fail
    go_ret
    exact ⟨by rw [HR.out]; rfl, HG.out⟩
  have f0 : decide (s < 0) = false := decide_eq_false c0
  by_cases c1 : (k : Int) ≤ s
  · have HR : Hid (nextI k lp s = 0) := Lib.hid (by unfold nextI; rw [if_pos (.inr c1)])
    have f1 : decide ((k : Int) ≤ s) = true := decide_eq_true c1
    clear c0 c1
    go_enter Try.func23, Try.ntmps23
    go_wp2_with fail
    go_ret
    exact ⟨by rw [HR.out]; rfl, HG.out⟩
  have f1 : decide ((k : Int) ≤ s) = false := decide_eq_false c1
  by_cases c2 : s = (k : Int) - 1
  · have HR : Hid (nextI k lp s = lp) := Lib.hid (by unfold nextI; rw [if_neg (by omega), if_pos c2])
    have f2 : (s == (k : Int) - 1) = true := by simpa using c2
    have hb : -9223372036854775808 ≤ (k : Int) - 1 ∧ (k : Int) - 1 ≤ 9223372036854775807 := by omega
    clear c0 c1 c2
    go_enter Try.func23, Try.ntmps23
    go_wp2_with fail
    go_ret
    exact ⟨by rw [HR.out]; rfl, HG.out⟩
  have HR : Hid (nextI k lp s = s + 1) := Lib.hid (by unfold nextI; rw [if_neg (by omega), if_neg c2])
  have f2 : (s == (k : Int) - 1) = false := by simpa using c2
  have hb : -9223372036854775808 ≤ (k : Int) - 1 ∧ (k : Int) - 1 ≤ 9223372036854775807 := by omega
  have hb2 : s + 1 ≤ 9223372036854775807 := by omega
  clear c0 c1 c2
  go_enter Try.func23, Try.ntmps23
  go_wp2_with fail
  go_ret
  exact ⟨by rw [HR.out]; rfl, HG.out⟩

set_option maxRecDepth 100000 in
set_option maxHeartbeats 1000000 in
theorem rNext_calls (sa : Option Addr) (n sc : Nat) (st : Int) (ta : Option Addr) (k tc : Nat) (lp : Int) (s : Int) (w : World) (hk : (k : Int) ≤ 9223372036854775807) (hs0 : -9223372036854775808 ≤ s) (hs1 : s ≤ 9223372036854775807) :
    Calls Try.prog 24 #[.agg #[.slice sa n sc, .int .i64 st, .slice ta k tc, .int .i64 lp], .int .i64 s] w fun e w' => e = .returned (.int .i64 (nextI k lp s)) ∧ w.grownBy w' none := by
  have HG := Lib.hid (World.grownBy_alloc w (.cells #[.slice sa n sc, .int .i64 st, .slice ta k tc, .int .i64 lp] 33) none)
  by_cases c0 : s < 0
  · have HR : Hid (nextI k lp s = 0) := Lib.hid (by unfold nextI; rw [if_pos (.inl c0)])
    have f0 : decide (s < 0) = true := decide_eq_true c0
    clear c0
    go_enter Try.func24, Try.ntmps24
    go_wp2_with fail
    go_ret
    exact ⟨by rw [HR.out]; rfl, HG.out⟩
  have f0 : decide (s < 0) = false := decide_eq_false c0
  by_cases c1 : (k : Int) ≤ s
  · have HR : Hid (nextI k lp s = 0) := Lib.hid (by unfold nextI; rw [if_pos (.inr c1)])
    have f1 : decide ((k : Int) ≤ s) = true := decide_eq_true c1
    clear c0 c1
    go_enter Try.func24, Try.ntmps24
    go_wp2_with fail
    go_ret
    exact ⟨by rw [HR.out]; rfl, HG.out⟩
  have f1 : decide ((k : Int) ≤ s) = false := decide_eq_false c1
  by_cases c2 : s = (k : Int) - 1
  · have HR : Hid (nextI k lp s = lp) := Lib.hid (by unfold nextI; rw [if_neg (by omega), if_pos c2])
    have f2 : (s == (k : Int) - 1) = true := by simpa using c2
    have hb : -9223372036854775808 ≤ (k : Int) - 1 ∧ (k : Int) - 1 ≤ 9223372036854775807 := by omega
    clear c0 c1 c2
    go_enter Try.func24, Try.ntmps24
    go_wp2_with fail
    go_ret
    exact ⟨by rw [HR.out]; rfl, HG.out⟩
  have HR : Hid (nextI k lp s = s + 1) := Lib.hid (by unfold nextI; rw [if_neg (by omega), if_neg c2])
  have f2 : (s == (k : Int) - 1) = false := by simpa using c2
  have hb : -9223372036854775808 ≤ (k : Int) - 1 ∧ (k : Int) - 1 ≤ 9223372036854775807 := by omega
  have hb2 : s + 1 ≤ 9223372036854775807 := by omega
  clear c0 c1 c2
  go_enter Try.func24, Try.ntmps24
  go_wp2_with fail
  go_ret
  exact ⟨by rw [HR.out]; rfl, HG.out⟩

set_option maxRecDepth 100000 in
set_option maxHeartbeats 1000000 in
theorem index_calls (sa : Option Addr) (n sc : Nat) (st : Int) (ta : Option Addr) (k tc : Nat) (lp : Int) (t : Int) (w : World) (hk : k ≤ 64) (hl0 : 0 ≤ lp) (hl1 : lp < (k : Int)) (ht0 : 0 ≤ t) (ht1 : t ≤ 9223372036854775807) :
    Calls Try.prog 80 #[.agg #[.slice sa n sc, .int .i64 st, .slice ta k tc, .int .i64 lp], .int .i64 t] w fun e w' => e = .returned (.int .i64 (indexI k lp t)) ∧ w.grownBy w' none := by
  have HG := Lib.hid (World.grownBy_alloc w (.cells #[.slice sa n sc, .int .i64 st, .slice ta k tc, .int .i64 lp] 33) none)
  by_cases c0 : t < (k : Int)
  · have HR : Hid (indexI k lp t = t) := Lib.hid (by unfold indexI; rw [if_pos c0])
    have f0 : decide (t < (k : Int)) = true := decide_eq_true c0
    clear c0
    go_enter Try.func80, Try.ntmps80
    go_wp2_with fail
    go_ret
    exact ⟨by rw [HR.out]; rfl, HG.out⟩
  have HR : Hid (indexI k lp t = lp + (t - lp) % ((k : Int) - lp)) := Lib.hid (by unfold indexI; rw [if_neg c0])
  have f0 : decide (t < (k : Int)) = false := decide_eq_false c0
  obtain ⟨D, hD⟩ : ∃ D, (k : Int) - lp = D := ⟨_, rfl⟩
  obtain ⟨T, hT⟩ : ∃ T, t - lp = T := ⟨_, rfl⟩
  rw [hD, hT] at HR
  have hD1 : 1 ≤ D := by omega
  have hD2 : D ≤ 64 := by omega
  have hT1 : 0 ≤ T := by omega
  have hT2 : T ≤ 9223372036854775807 := by omega
  have hm0 : 0 ≤ T % D := Int.emod_nonneg T (by omega)
  have hm1 : T % D < D := Int.emod_lt_of_pos T (by omega)
  have hm2 : lp + T % D ≤ 9223372036854775807 := by omega
  have hm3 : -9223372036854775808 ≤ lp + T % D := by omega
  have hDn : (D == 0) = false := by simp; omega
  have hDn2 : D ≠ 0 := by omega
  have hDn3 : ¬ D = -1 := by omega
  clear c0
  go_enter Try.func80, Try.ntmps80
  go_wp2_with fail
  go_quiet (fail)
  go_wp2_with fail
  go_ret
  exact ⟨by rw [HR.out]; rfl, HG.out.trans (grown_drewN _ _ _)⟩

end Go.Proofs.Ytbddpjofhddilaa
/- What lies in a span of blocks; a row that is being made, of elements that lie in spans. -/
namespace Go.Proofs.Ytbddpjofhddilaa
open Go.RowKit

/-- P holds of whatever world has the blocks from lo up to hi as they lie in w. -/
def Span (lo hi : Nat) (w : World) (P : World → Prop) : Prop := hi ≤ w.heap.size ∧ ∀ W : World, (∀ b, lo ≤ b → b < hi → W.heap[b]? = w.heap[b]?) → P W
theorem Span.here {lo hi : Nat} {w : World} {P : World → Prop} (h : Span lo hi w P) : P w := h.2 w fun _ _ _ => rfl
theorem Span.off {lo hi : Nat} {w w' : World} {P : World → Prop} {r : Option Nat} (h : Span lo hi w P) (hg : w.grownBy w' r) (hr : ∀ x, r = some x → x < lo ∨ hi ≤ x) : Span lo hi w' P := by
  refine ⟨Nat.le_trans h.1 hg.size, fun W hW => h.2 W fun b hl hh => ?_⟩
  rw [hW b hl hh]
  refine hg.block b (Nat.lt_of_lt_of_le hh h.1) fun e => ?_
  have := hr b e.symm
  omega
theorem Span.grown {lo hi : Nat} {w w' : World} {P : World → Prop} (h : Span lo hi w P) (hg : w.grownBy w' none) : Span lo hi w' P := h.off hg fun _ e => by cases e
theorem Span.wide {lo hi lo' hi' : Nat} {w : World} {P : World → Prop} (h : Span lo hi w P) (hl : lo' ≤ lo) (hh : hi ≤ hi') (hs : hi' ≤ w.heap.size) : Span lo' hi' w P :=
  ⟨hs, fun W hW => h.2 W fun b h1 h2 => hW b (by omega) (by omega)⟩
theorem Span.map {lo hi : Nat} {w : World} {P Q : World → Prop} (h : Span lo hi w P) (f : ∀ W, P W → Q W) : Span lo hi w Q := ⟨h.1, fun W hW => f W (h.2 W hW)⟩
theorem add_at (g j : Nat) : (⟨g, 0, none⟩ : Addr).add j = ⟨g, j, none⟩ := by unfold Addr.add; split <;> simp_all
theorem size_of_heap {w W : World} {b : Nat} (h : W.heap[b]? = w.heap[b]?) (hb : b < w.heap.size) : b < W.heap.size := by
  rw [Array.getElem?_eq_getElem hb] at h
  exact (Array.getElem?_eq_some_iff.1 h).1
theorem ints_span {w : World} {B : Nat} {v : Value} {l : List Int} (h : w.ownsRow B 3 1 v l.length (intCells l)) : ∃ a c, v = .slice a l.length c ∧ Span B w.heap.size w (fun W => Ints W a c l) := by
  have hc := @World.ownsRow.cells w B 3 1 v l.length _ h
  rcases h.2 with ⟨hv, h0⟩ | ⟨g, cap, cur, rfl, hb, hg, hnc, hcm, _⟩
  · have hl : l = [] := List.eq_nil_of_length_eq_zero h0
    subst hl
    exact ⟨none, 0, hv, Nat.le_refl _, fun W _ => ints_nil W⟩
  · have hlt := (Array.getElem?_eq_some_iff.1 hg).1
    refine ⟨_, _, rfl, Nat.le_refl _, fun W hW => ⟨hnc, .inr ⟨g, 0, rfl, size_of_heap (hW g hb hlt) hlt, fun j z hj => ?_⟩⟩⟩
    have := hc (g := g) rfl j (.int .i64 z) (by rw [intCells, List.getElem?_map, hj]; rfl)
    rw [add_at] at this
    rw [Nat.zero_add, World.cell?_of_block (hW g hb hlt)]; exact this

section
variable {δ : Type}
/-- A row that is being made: its own block, and the spans of its elements. -/
structure Out (cs : δ → List Value) (k : Nat) (P : δ → World → Prop) (w : World) (B : Nat) (e : TypeId) (v : Value) (D : List δ) : Prop where
  own : w.ownsRow B e k v D.length (D.flatMap cs)
  el : ∀ d ∈ D, ∃ lo hi, Span lo hi w (P d) ∧ B ≤ lo ∧ ∀ x, v.ownBlock = some x → x < lo ∨ hi ≤ x
variable {cs : δ → List Value} {k : Nat} {P : δ → World → Prop}
theorem Out.start (w : World) (B : Nat) (e : TypeId) : Out cs k P w B e (.slice none 0 0) [] := ⟨World.ownsRow_nil _ _ _ _, fun d hd => (by cases hd)⟩
theorem Out.quiet {w w' : World} {B : Nat} {e : TypeId} {v : Value} {D : List δ} {r : Option Nat} (h : Out cs k P w B e v D) (hg : w.grownBy w' r) (hr : ∀ x, r = some x → x < B) : Out cs k P w' B e v D := by
  refine ⟨h.own.kept hg ?_, fun d hd => ?_⟩
  · cases r with
    | none => cases hv : v.ownBlock <;> simp
    | some k => exact own_ne h.own (hr k rfl)
  · obtain ⟨lo, hi, hs, hb, hx⟩ := h.el d hd
    exact ⟨lo, hi, hs.off hg (fun x hx => by have := hr x hx; omega), hb, hx⟩
theorem Out.push {w w3 : World} {B : Nat} {e : TypeId} {v v' : Value} {D : List δ} {d : δ} {lo hi : Nat} {o : Obj} (h : Out cs k P w B e v D) (hd : Span lo hi w (P d)) (hB : B ≤ lo)
    (hx : ∀ x, v.ownBlock = some x → x < lo ∨ hi ≤ x) (hown : w3.ownsRow B e k v' (D.length + 1) (D.flatMap cs ++ cs d))
    (hg : (w.alloc o).grownBy w3 v.ownBlock) (hat : v'.ownBlock = v.ownBlock ∨ v'.ownBlock = some (w.alloc o).heap.size) : Out cs k P w3 B e v' (D ++ [d]) := by
  have ga := World.grownBy_alloc w o none
  have key : ∀ (y : δ) (lo hi : Nat), Span lo hi w (P y) → B ≤ lo → (∀ x, v.ownBlock = some x → x < lo ∨ hi ≤ x) → ∃ lo hi, Span lo hi w3 (P y) ∧ B ≤ lo ∧ ∀ x, v'.ownBlock = some x → x < lo ∨ hi ≤ x := by
    intro y lo hi hs hb hx
    refine ⟨lo, hi, (hs.grown ga).off hg hx, hb, fun x e => ?_⟩
    rcases hat with q | q
    · exact hx x (by rw [← q]; exact e)
    · rw [q] at e
      injection e with e
      have := hs.1
      have := ga.size
      omega
  refine ⟨by rw [List.length_append, List.flatMap_append, List.flatMap_cons, List.flatMap_nil, List.append_nil]; exact hown, fun y hy => ?_⟩
  rw [List.mem_append, List.mem_singleton] at hy
  rcases hy with hy | rfl
  · obtain ⟨lo, hi, hs, hb, hx⟩ := h.el y hy
    exact key y lo hi hs hb hx
  · exact key _ lo hi hd hB hx
theorem flat_at (hcs : ∀ d, (cs d).length = k) : ∀ (D : List δ) (j : Nat) (d : δ), D[j]? = some d → ∀ t < k, (D.flatMap cs)[j * k + t]? = (cs d)[t]?
  | [], j, d, h, _, _ => by simp at h
  | e :: D, 0, d, h, t, ht => by
    simp at h; subst h
    rw [List.flatMap_cons, List.getElem?_append_left (by rw [hcs]; omega), Nat.zero_mul, Nat.zero_add]
  | e :: D, j + 1, d, h, t, ht => by
    rw [List.flatMap_cons, List.getElem?_append_right (by rw [hcs, Nat.add_mul]; omega)]
    have := flat_at hcs D j d (by simpa using h) t ht
    rw [← this, hcs]; congr 1; rw [Nat.add_mul]; omega
theorem Out.span {w : World} {B : Nat} {e : TypeId} {v : Value} {D : List δ} (h : Out cs k P w B e v D) (hcs : ∀ d, (cs d).length = k) :
    ∃ a c, v = .slice a D.length c ∧ D.length ≤ c ∧ Span B w.heap.size w (fun W => ∀ (j : Nat) (d : δ), D[j]? = some d → P d W ∧ ∃ g, a = some ⟨g, 0, none⟩ ∧ ∀ t u, (cs d)[t]? = some u → W.cell? ⟨g, 0 + j * k + t, none⟩ = some u) := by
  have hc := @World.ownsRow.cells w B e k v D.length _ h.own
  rcases h.own.2 with ⟨hv, h0⟩ | ⟨g, cap, cur, rfl, hb, hg, hnc, hcm, _⟩
  · have hl : D = [] := List.eq_nil_of_length_eq_zero h0
    subst hl
    exact ⟨none, 0, hv, Nat.le_refl _, Nat.le_refl _, fun W _ j d hj => by simp at hj⟩
  · have hlt := (Array.getElem?_eq_some_iff.1 hg).1
    refine ⟨_, _, rfl, hnc, Nat.le_refl _, fun W hW j d hj => ⟨?_, g, rfl, fun t u hu => ?_⟩⟩
    · obtain ⟨lo, hi, hs, hbl, _⟩ := h.el d (List.mem_of_getElem? hj)
      exact hs.2 W fun b h1 h2 => hW b (by omega) (Nat.lt_of_lt_of_le h2 hs.1)
    · have ht : t < k := by rw [← hcs d]; exact (List.getElem?_eq_some_iff.1 hu).1
      have := hc (g := g) rfl (j * k + t) u (by rw [flat_at hcs D j d hj t ht]; exact hu)
      rw [add_at] at this
      rw [Nat.zero_add, World.cell?_of_block (hW g hb hlt)]; exact this
end

/-- A relation with its row. -/
abbrev Dr := Rl × Option Addr × Nat
def relCells (d : Dr) : List Value := [.int .i64 d.1.1, .slice d.2.1 d.1.2.length d.2.2]
def relP (d : Dr) (W : World) : Prop := IntsW W d.2.1 d.2.2 d.1.2
abbrev OutR (w : World) (B : Nat) (v : Value) (D : List Dr) : Prop := Out relCells 2 relP w B 53 v D
theorem OutR.rels {w : World} {B : Nat} {v : Value} {D : List Dr} (h : OutR w B v D) : ∃ a c, v = .slice a (D.map (·.1)).length c ∧ Span B w.heap.size w (fun W => Rels W a c (D.map (·.1))) := by
  obtain ⟨a, c, hv, hlc, hs⟩ := Out.span h (fun _ => rfl)
  refine ⟨a, c, by rw [List.length_map]; exact hv, hs.1, fun W hW => ⟨by rw [List.length_map]; exact hlc, fun j r hj => ?_⟩⟩
  rw [List.getElem?_map] at hj
  cases hd : D[j]? with
  | none => rw [hd] at hj; cases hj
  | some d =>
    rw [hd] at hj
    cases hj
    obtain ⟨hp, g, rfl, hc⟩ := hs.2 W hW j d hd
    exact ⟨g, 0, rfl, hc 0 _ rfl, d.2.1, d.2.2, hc 1 _ rfl, hp⟩
/-- A state with its row. -/
abbrev Ds := List Rl × Option Addr × Nat
def stCells (d : Ds) : List Value := [.slice d.2.1 d.1.length d.2.2]
def stP (d : Ds) (W : World) : Prop := Rels W d.2.1 d.2.2 d.1
abbrev OutS (w : World) (B : Nat) (v : Value) (D : List Ds) : Prop := Out stCells 1 stP w B 40 v D
theorem OutS.sts {w : World} {B : Nat} {v : Value} {D : List Ds} (h : OutS w B v D) : ∃ a c, v = .slice a (D.map (·.1)).length c ∧ Span B w.heap.size w (fun W => Sts W a c (D.map (·.1))) := by
  obtain ⟨a, c, hv, hlc, hs⟩ := Out.span h (fun _ => rfl)
  refine ⟨a, c, by rw [List.length_map]; exact hv, hs.1, fun W hW => ⟨by rw [List.length_map]; exact hlc, fun j r hj => ?_⟩⟩
  rw [List.getElem?_map] at hj
  cases hd : D[j]? with
  | none => rw [hd] at hj; cases hj
  | some d =>
    rw [hd] at hj
    cases hj
    obtain ⟨hp, g, rfl, hc⟩ := hs.2 W hW j d hd
    exact ⟨g, 0, rfl, d.2.1, d.2.2, by have := hc 0 _ rfl; simpa using this, hp⟩
theorem info53 : (Try.prog.info? 53).map (fun i => (i.zero, i.size, i.bytes)) = some (some (.agg #[.int .i64 0, .slice none 0 0]), 2, 32) := by kernel_rfl
theorem info40 : (Try.prog.info? 40).map (fun i => (i.zero, i.size, i.bytes)) = some (some (.slice none 0 0), 1, 24) := by kernel_rfl
theorem cell_two_new (w : World) (x y : Value) (t : TypeId) : ∀ j u, [x, y][j]? = some u → (w.alloc (.cells #[x, y] t)).cell? ((⟨w.heap.size, 0, none⟩ : Addr).add j) = some u := by
  intro j u hu
  rw [add_at, World.cell?_alloc_new]
  match j, hu with
  | 0, hu => simpa using hu
  | 1, hu => simpa using hu
end Go.Proofs.Ytbddpjofhddilaa
