/- CheckerPrefixes is proved: for every input, the law returns true and leaves its arguments as they were (the check of a prefix answers as the whole says, and steps behind an unjustified one change nothing); there are no further conditions. -/
import Derived.Test.YtihaheinkpmnnaaGreatCA34
import Derived.Test.YtihaheinkpmnnaaGreatCA35
namespace Go.Proofs.YtihaheinkpmnnaaGreat
set_option maxRecDepth 200000
open Go.RowKit
set_option maxHeartbeats 32000000 in
theorem prefixes_calls (V : Int) (F : List (List Int)) (fa : Option Addr) (fc : Nat) (Y : List (List Int)) (ya : Option Addr) (yc : Nat) (l : List St) (la : Option Addr) (lc : Nat) (m : List St) (ma : Option Addr) (mc : Nat) (kk : Int) (w : World)
    (hF : ClsW w fa fc F) (hY : ClsW w ya yc Y) (hl : StepsW w la lc l) (hm : StepsW w ma mc m) (hk0 : 0 ≤ kk) (hk1 : kk ≤ 255) (by1 : (Y.length : Int) ≤ 9223372036854775807) (bl1 : (l.length : Int) ≤ 9223372036854775807) (bm1 : (m.length : Int) ≤ 9223372036854775807)
    (wl : ∀ x ∈ l, (Lit.int .i64 x.1).wf = true) (wm : ∀ x ∈ m, (Lit.int .i64 x.1).wf = true) :
    Calls Tryz.prog 6 #[.agg #[.int .i64 V, .slice fa F.length fc], .slice ya Y.length yc, .slice la l.length lc, .slice ma m.length mc, .int .u8 kk] w fun e w' => e = .returned (.bool true) ∧ w.grownBy w' none := by
  obtain ⟨fn, hfn⟩ : ∃ z, F.length = z := ⟨_, rfl⟩
  obtain ⟨yn, hyn⟩ : ∃ z, Y.length = z := ⟨_, rfl⟩
  obtain ⟨n, hn⟩ : ∃ z, l.length = z := ⟨_, rfl⟩
  obtain ⟨mn, hmn⟩ : ∃ z, m.length = z := ⟨_, rfl⟩
  obtain ⟨W1, hW1⟩ : ∃ z, w.alloc (.cells #[.int .i64 V, .slice fa fn fc] 24) = z := ⟨_, rfl⟩
  obtain ⟨q0, q1, hg1⟩ := box_at w _ _ hW1
  obtain ⟨bf, hbf⟩ : ∃ z, w.heap.size = z := ⟨_, rfl⟩
  rw [hbf] at q0 q1
  have HI := Lib.hid (And.intro (hF.grown hg1) (And.intro (hY.grown hg1) (And.intro (hl.grown hg1) (hm.grown hg1))))
  have HN := Lib.hid (And.intro hfn (And.intro hyn (And.intro hn hmn)))
  have HB := Lib.hid (And.intro by1 (And.intro bl1 bm1))
  have HW := Lib.hid (And.intro wl wm)
  have HG1 := Lib.hid hg1
  have HQ := Lib.hid (And.intro q0 q1)
  have HM : Hid (smallB V F = true → fewB Y l = true → fewB [] m = true → (∃ V0 : Nat, V = (V0 : Int) ∧ V0 ≤ 8 ∧ ∀ W, W1.grownBy W none → FY W V0 F fa fc Y ya yc) ∧ Few l 40 ∧ Few m 40) := Lib.hid (fun h1 h2 h3 => by
    obtain ⟨V0, e, a1, a2, a3, a4⟩ := small_nat h1
    obtain ⟨c1, c2, c3, c4⟩ := few_true h2
    obtain ⟨_, d2, _, d4⟩ := few_true h3
    exact ⟨⟨V0, e, a1, fun W hg => ⟨HI.out.1.grown hg, HI.out.2.1.grown hg, by omega, a2, a3, a4, c1, c3⟩⟩, ⟨c2, c4, HW.out.1⟩, ⟨d2, d4, HW.out.2⟩⟩)
  rw [hfn, hyn, hn, hmn]
  clear hF hY hl hm hfn hyn hn hmn wl wm hg1 q0 q1 by1 bl1 bm1
  have HS : Hid (∀ W, W1.grownBy W none → Calls Tryz.prog 11 #[.agg #[.int .i64 V, .slice fa fn fc]] W fun e w' => e = .returned (.bool (smallB V F)) ∧ W.grownBy w' none) := Lib.hid (fun W hg => by
    have := small_calls V F fa fc W (HI.out.1.grown hg); rwa [HN.out.1] at this)
  have HFW : Hid (∀ W, W1.grownBy W none → Calls Tryz.prog 12 #[.slice ya yn yc, .slice la n lc] W fun e w' => e = .returned (.bool (fewB Y l)) ∧ w' = W) := Lib.hid (fun W hg => by
    have := few_calls Y ya yc l la lc W (HI.out.2.1.grown hg) (HI.out.2.2.1.grown hg) HB.out.2.1 HB.out.1; rwa [HN.out.2.1, HN.out.2.2.1] at this)
  have HFM : Hid (∀ W, W1.grownBy W none → Calls Tryz.prog 12 #[.slice none 0 0, .slice ma mn mc] W fun e w' => e = .returned (.bool (fewB [] m)) ∧ w' = W) := Lib.hid (fun W hg => by
    have := few_calls [] none 0 m ma mc W (clsw_nil _ _ _) (HI.out.2.2.2.grown hg) HB.out.2.2 (by simp); rwa [HN.out.2.2.2] at this)
  go_enter Tryz.func6, Tryz.ntmps6
  go_wp2_with fail
  clear hW1
  refine (head_calls _).mono ?_
  rintro e w2 ⟨rfl, hg2⟩
  have q0 := hg2.cell HQ.out.1 (by simp)
  have q1 := hg2.cell HQ.out.2 (by simp)
  have G2 := Lib.hid hg2
  clear hg2
  go_wp2_with fail
  refine (HS.out _ G2.out).mono ?_
  rintro e w3 ⟨rfl, hg⟩
  replace q0 := hg.cell q0 (by simp)
  replace q1 := hg.cell q1 (by simp)
  have G3 := Lib.hid (G2.out.trans hg)
  clear hg
  obtain ⟨sb, hsb⟩ : ∃ z, smallB V F = z := ⟨_, rfl⟩
  rw [hsb]
  cases sb
  case false =>
    go_wp2_with fail
    go_ret
    exact ⟨rfl, HG1.out.trans G3.out⟩
  go_wp2_with fail
  refine (HFW.out _ G3.out).mono ?_
  rintro e w4 ⟨rfl, rfl⟩
  obtain ⟨sl, hsl⟩ : ∃ z, fewB Y l = z := ⟨_, rfl⟩
  rw [hsl]
  cases sl
  case false =>
    go_wp2_with fail
    go_ret
    exact ⟨rfl, HG1.out.trans G3.out⟩
  go_wp2_with fail
  refine (HFM.out _ G3.out).mono ?_
  rintro e w5 ⟨rfl, rfl⟩
  obtain ⟨sm, hsm⟩ : ∃ z, fewB [] m = z := ⟨_, rfl⟩
  rw [hsm]
  cases sm
  case false =>
    go_wp2_with fail
    go_ret
    exact ⟨rfl, HG1.out.trans G3.out⟩
  obtain ⟨⟨V0, rfl, hV8, hFY⟩, hl40, hm40⟩ := HM.out hsb hsl hsm
  have HFY := Lib.hid hFY
  have HL := Lib.hid hl40
  have HMM := Lib.hid hm40
  have n40 : n ≤ 40 := by rw [← HN.out.2.2.1]; exact hl40.1
  have m40 : mn ≤ 40 := by rw [← HN.out.2.2.2]; exact hm40.1
  clear hFY hl40 hm40 hsb hsl hsm
  obtain ⟨c, hc⟩ : ∃ z, chkP (V0, F) Y l = z := ⟨_, rfl⟩
  obtain ⟨g1, hg1⟩ : ∃ z, errC c n = z := ⟨_, rfl⟩
  have hcn : c ≤ n := by rw [← hc, ← HN.out.2.2.1]; exact chk_le _ _ _
  have HC := Lib.hid (And.intro hc hg1)
  clear hc hg1
  have HCK : Hid (∀ W (l' : List St) (la' : Option Addr) (lc' n' c' : Nat) (g' : Int), W1.grownBy W none → StepsW W la' lc' l' → Few l' 80 → l'.length = n' → chkP (V0, F) Y l' = c' → errC c' n' = g' → Calls Tryz.prog 13 #[.agg #[.int .i64 (V0 : Int), .slice fa fn fc], .slice ya yn yc, .slice la' n' lc'] W fun e w' => e = .returned (.tuple #[.int .i64 (c' : Int), .int .i64 g']) ∧ W1.grownBy w' none ∧ W.grownBy w' none) :=
    Lib.hid (fun W l' la' lc' n' c' g' hg hs hf h1 h2 h3 => ((HFY.out W hg).check hs hf HN.out.1 HN.out.2.1 h1 h2 h3).mono fun e w' ⟨e1, e2⟩ => ⟨e1, hg.trans e2, e2⟩)
  have HRF : Hid (∀ W (l' : List St) (la' : Option Addr) (lc' n' : Nat) (d' : Bool), W1.grownBy W none → StepsW W la' lc' l' → Few l' 80 → l'.length = n' → refB (V0, F) Y l' = d' → Calls Tryz.prog 15 #[.agg #[.int .i64 (V0 : Int), .slice fa fn fc], .slice ya yn yc, .slice la' n' lc'] W fun e w' => e = .returned (.bool d') ∧ W1.grownBy w' none) :=
    Lib.hid (fun W l' la' lc' n' d' hg hs hf h1 h2 => ((HFY.out W hg).refutes hs hf HN.out.1 HN.out.2.1 h1 h2).mono fun e w' ⟨e1, e2⟩ => ⟨e1, hg.trans e2⟩)
  have HL8 : Hid (Few l 80) := Lib.hid ⟨Nat.le_trans HL.out.1 (by omega), HL.out.2⟩
  go_wp2_with fail
  refine (HCK.out _ l la lc n c g1 G3.out (HI.out.2.2.1.grown G3.out) HL8.out HN.out.2.2.1 HC.out.1 HC.out.2).mono ?_
  rintro e w6 ⟨rfl, hg6, -⟩
  have HQC : Hid (∀ W, W1.grownBy W none → W.cell? ⟨bf, 0, none⟩ = some (.int .i64 (V0 : Int)) ∧ W.cell? ⟨bf, 1, none⟩ = some (.slice fa fn fc)) := Lib.hid (fun W hg => ⟨hg.cell HQ.out.1 (by simp), hg.cell HQ.out.2 (by simp)⟩)
  clear q0 q1
  obtain ⟨q0, q1⟩ := HQC.out _ hg6
  have G6 := Lib.hid hg6
  clear hg6
  obtain ⟨kn, rfl⟩ : ∃ z : Nat, kk = (z : Int) := ⟨kk.toNat, by omega⟩
  obtain ⟨cut, hcut⟩ : ∃ z, kn % (n + 1) = z := ⟨_, rfl⟩
  have cutn : cut ≤ n := by have := Nat.mod_lt kn (show 0 < n + 1 by omega); omega
  have k1 : IntKind.i64.wrap ((n : Int) + 1) = (n : Int) + 1 := IntWalk.i64_in _ (by omega)
  have k2 : IntKind.i64.wrap (kn : Int) = (kn : Int) := IntWalk.i64_in _ (by omega)
  have k3 : (kn : Int).tmod ((n : Int) + 1) = (cut : Int) := by rw [← hcut]; rfl
  have k4 : IntKind.i64.wrap (cut : Int) = (cut : Int) := IntWalk.i64_in _ (by omega)
  have k5 : ¬ ((n : Int) + 1 = 0) := by omega
  have q3 : (0 : Int) ≤ (cut : Int) := by omega
  have cutc : cut ≤ lc := by have := HI.out.2.2.1.1; rw [HN.out.2.2.1] at this; omega
  obtain ⟨c2, hc2⟩ : ∃ z, min c cut = z := ⟨_, rfl⟩
  obtain ⟨g2, hg2⟩ : ∃ z, errC c2 cut = z := ⟨_, rfl⟩
  have HC2 : Hid (chkP (V0, F) Y (l.take cut) = c2 ∧ errC c2 cut = g2 ∧ (l.take cut).length = cut ∧ min c cut = c2) := Lib.hid ⟨by rw [chk_take _ _ _ (by rw [HN.out.2.2.1]; exact cutn), HC.out.1]; exact hc2, hg2, by rw [List.length_take, HN.out.2.2.1]; omega, hc2⟩
  clear hc2 hg2
  have HCU := Lib.hid (And.intro hcut (And.intro hk0 hk1))
  clear hcut hk0 hk1
  go_upto_region 6 with fail
  clear k1 k2 k3 k4 k5
  go_region_held3 (fun w' => W1.grownBy w' none ∧ w'.cell? ⟨bf, 0, none⟩ = some (.int .i64 (V0 : Int)) ∧ w'.cell? ⟨bf, 1, none⟩ = some (.slice fa fn fc))
    (first | exact ⟨G6.out.trans (grown_drew w6 none), q0, q1⟩ | (go_split_ands; exact ⟨by assumption, by assumption, by assumption⟩) | exact ⟨g7, (HQC.out _ g7).1, (HQC.out _ g7).2⟩)
    (first | (go_at_call 13; refine (HCK.out _ (l.take cut) la lc cut c2 g2 (by go_split_ands; assumption) ((HI.out.2.2.1.take cut).grown (by go_split_ands; assumption)) (HL8.out.take cut) HC2.out.2.2.1 HC2.out.1 HC2.out.2.1).mono ?_; rintro e w7 ⟨rfl, g7, -⟩))
  have G7 := Lib.hid g7
  clear g7 q0 q1 q3 cutc
  have p1 : decide ((c : Int) < 0) = false := decide_eq_false (by omega)
  have p2 : decide ((c : Int) > (n : Int)) = false := decide_eq_false (by omega)
  have p2' : decide ((n : Int) < (c : Int)) = false := decide_eq_false (by omega)
  have p2'' : decide (n < c) = false := decide_eq_false (by omega)
  by_cases hA : c = n
  · subst hA
    obtain rfl : 0 = g1 := by rw [← HC.out.2]; unfold errC; rw [if_pos rfl]
    obtain rfl : cut = c2 := by have := HC2.out.2.2.2; omega
    obtain rfl : 0 = g2 := by rw [← HC2.out.2.1]; unfold errC; rw [if_pos rfl]
    have p3 : decide ((cut : Int) ≤ (c : Int)) = true := decide_eq_true (by omega)
    have p3' : decide (cut ≤ c) = true := decide_eq_true (by omega)
    have p4 : decide ((cut : Int) > (c : Int)) = false := decide_eq_false (by omega)
    have p4' : decide ((c : Int) < (cut : Int)) = false := decide_eq_false (by omega)
    have p4'' : decide (c < cut) = false := decide_eq_false (by omega)
    go_upto_region 11 with fail
    have HO := Lib.hid (own_nil46 w7)
    go_wp2_with (at_builtin; refine append_steps rfl _ _ rfl w7 _ 0 [] rfl HO.out la c lc l rfl HN.out.2.2.1 (HI.out.2.2.1.grown G7.out) (by omega) ?_)
    intro a8 c8 w8 hO8
    have HO8 := Lib.hid hO8
    clear hO8
    go_wp2_with (at_builtin; refine append_steps rfl _ _ rfl w7 _ c l rfl HO8.out ma mn mc m rfl HN.out.2.2.2 (HI.out.2.2.2.grown G7.out) (by omega) ?_)
    intro a9 c9 w9 hO9
    have HO9 := Lib.hid hO9
    obtain ⟨ax, cx, ex, hst⟩ := hO9.steps
    cases ex
    have HST := Lib.hid hst
    have hg9 := hO9.choose_spec.2.2
    have G9 := Lib.hid (G7.out.trans hg9)
    clear hO9 hst hg9
    have HLM : Hid (Few (l ++ m) 80 ∧ (l ++ m).length = c + mn) := Lib.hid ⟨HL.out.app HMM.out, by rw [List.length_append, HN.out.2.2.1, HN.out.2.2.2]⟩
    obtain ⟨q0, q1⟩ := HQC.out _ G9.out
    obtain ⟨c3, hc3⟩ : ∃ z, chkP (V0, F) Y (l ++ m) = z := ⟨_, rfl⟩
    have hc3n : c ≤ c3 := by rw [← hc3, ← HN.out.2.2.1]; exact chk_app_all (by rw [HC.out.1, HN.out.2.2.1])
    have HC3 := Lib.hid hc3
    clear hc3
    have z1 : decide ((c3 : Int) ≥ (c : Int)) = true := decide_eq_true (by omega)
    have z2 : decide ((c : Int) ≤ (c3 : Int)) = true := decide_eq_true (by omega)
    have z3 : decide (c ≤ c3) = true := decide_eq_true (by omega)
    have z4 : decide ((c3 : Int) < (c : Int)) = false := decide_eq_false (by omega)
    have z5 : decide (c3 < c) = false := decide_eq_false (by omega)
    clear hc3n
    go_wp2_with fail
    refine (HCK.out _ (l ++ m) _ _ (c + mn) c3 _ G9.out HST.out HLM.out.1 HLM.out.2 HC3.out rfl).mono ?_
    rintro e w10 ⟨rfl, g10, -⟩
    have GE := Lib.hid g10
    clear g10
    go_wp2_with fail
    go_ret
    exact ⟨rfl, HG1.out.trans GE.out⟩
  · obtain rfl : 220 = g1 := by rw [← HC.out.2]; unfold errC; rw [if_neg hA]
    have hlt : c < n := by omega
    have p5 : decide ((c : Int) = (n : Int)) = false := decide_eq_false (by omega)
    have p5' : decide (c = n) = false := decide_eq_false hA
    by_cases hB : cut ≤ c
    · obtain rfl : cut = c2 := by have := HC2.out.2.2.2; omega
      obtain rfl : 0 = g2 := by rw [← HC2.out.2.1]; unfold errC; rw [if_pos rfl]
      have p3 : decide ((cut : Int) ≤ (c : Int)) = true := decide_eq_true (by omega)
      have p3' : decide (cut ≤ c) = true := decide_eq_true (by omega)
      have p4 : decide ((cut : Int) > (c : Int)) = false := decide_eq_false (by omega)
      have p4' : decide ((c : Int) < (cut : Int)) = false := decide_eq_false (by omega)
      have p4'' : decide (c < cut) = false := decide_eq_false (by omega)
      go_upto_region 11 with fail
      have HO := Lib.hid (own_nil46 w7)
      go_wp2_with (at_builtin; refine append_steps rfl _ _ rfl w7 _ 0 [] rfl HO.out la n lc l rfl HN.out.2.2.1 (HI.out.2.2.1.grown G7.out) (by omega) ?_)
      intro a8 c8 w8 hO8
      have HO8 := Lib.hid hO8
      clear hO8
      go_wp2_with (at_builtin; refine append_steps rfl _ _ rfl w7 _ n l rfl HO8.out ma mn mc m rfl HN.out.2.2.2 (HI.out.2.2.2.grown G7.out) (by omega) ?_)
      intro a9 c9 w9 hO9
      have HO9 := Lib.hid hO9
      obtain ⟨ax, cx, ex, hst⟩ := hO9.steps
      cases ex
      have HST := Lib.hid hst
      have hg9 := hO9.choose_spec.2.2
      have G9 := Lib.hid (G7.out.trans hg9)
      clear hO9 hst hg9
      have HLM : Hid (Few (l ++ m) 80 ∧ (l ++ m).length = n + mn) := Lib.hid ⟨HL.out.app HMM.out, by rw [List.length_append, HN.out.2.2.1, HN.out.2.2.2]⟩
      obtain ⟨q0, q1⟩ := HQC.out _ G9.out
      have HC3 : Hid (chkP (V0, F) Y (l ++ m) = c ∧ errC c (n + mn) = 220 ∧ refB (V0, F) Y (l ++ m) = false) := Lib.hid (by
        have e1 : chkP (V0, F) Y (l ++ m) = c := by rw [chk_app_bad (by rw [HC.out.1, HN.out.2.2.1]; exact hA), HC.out.1]
        exact ⟨e1, by unfold errC; rw [if_neg (by omega)], ref_bad (by rw [e1, HLM.out.2]; omega)⟩)
      go_wp2_with fail
      refine (HCK.out _ (l ++ m) _ _ (n + mn) c 220 G9.out HST.out HLM.out.1 HLM.out.2 HC3.out.1 HC3.out.2.1).mono ?_
      rintro e w10 ⟨rfl, g10, gk⟩
      have G10 := Lib.hid g10
      have GK := Lib.hid gk
      obtain ⟨q0, q1⟩ := HQC.out _ g10
      clear g10 gk
      go_wp2_with fail
      refine (HRF.out _ (l ++ m) _ _ (n + mn) false G10.out (HST.out.grown GK.out) HLM.out.1 HLM.out.2 HC3.out.2.2).mono ?_
      rintro e w11 ⟨rfl, g11⟩
      have GE := Lib.hid g11
      clear g11
      go_wp2_with fail
      go_ret
      exact ⟨rfl, HG1.out.trans GE.out⟩
    · obtain rfl : c = c2 := by have := HC2.out.2.2.2; omega
      obtain rfl : 220 = g2 := by rw [← HC2.out.2.1]; unfold errC; rw [if_neg (by omega)]
      have p3 : decide ((cut : Int) ≤ (c : Int)) = false := decide_eq_false (by omega)
      have p3' : decide (cut ≤ c) = false := decide_eq_false (by omega)
      have p4 : decide ((cut : Int) > (c : Int)) = true := decide_eq_true (by omega)
      have p4' : decide ((c : Int) < (cut : Int)) = true := decide_eq_true (by omega)
      have p4'' : decide (c < cut) = true := decide_eq_true (by omega)
      go_upto_region 11 with fail
      have HO := Lib.hid (own_nil46 w7)
      go_wp2_with (at_builtin; refine append_steps rfl _ _ rfl w7 _ 0 [] rfl HO.out la n lc l rfl HN.out.2.2.1 (HI.out.2.2.1.grown G7.out) (by omega) ?_)
      intro a8 c8 w8 hO8
      have HO8 := Lib.hid hO8
      clear hO8
      go_wp2_with (at_builtin; refine append_steps rfl _ _ rfl w7 _ n l rfl HO8.out ma mn mc m rfl HN.out.2.2.2 (HI.out.2.2.2.grown G7.out) (by omega) ?_)
      intro a9 c9 w9 hO9
      have HO9 := Lib.hid hO9
      obtain ⟨ax, cx, ex, hst⟩ := hO9.steps
      cases ex
      have HST := Lib.hid hst
      have hg9 := hO9.choose_spec.2.2
      have G9 := Lib.hid (G7.out.trans hg9)
      clear hO9 hst hg9
      have HLM : Hid (Few (l ++ m) 80 ∧ (l ++ m).length = n + mn) := Lib.hid ⟨HL.out.app HMM.out, by rw [List.length_append, HN.out.2.2.1, HN.out.2.2.2]⟩
      obtain ⟨q0, q1⟩ := HQC.out _ G9.out
      have HC3 : Hid (chkP (V0, F) Y (l ++ m) = c ∧ errC c (n + mn) = 220 ∧ refB (V0, F) Y (l ++ m) = false) := Lib.hid (by
        have e1 : chkP (V0, F) Y (l ++ m) = c := by rw [chk_app_bad (by rw [HC.out.1, HN.out.2.2.1]; exact hA), HC.out.1]
        exact ⟨e1, by unfold errC; rw [if_neg (by omega)], ref_bad (by rw [e1, HLM.out.2]; omega)⟩)
      go_wp2_with fail
      refine (HCK.out _ (l ++ m) _ _ (n + mn) c 220 G9.out HST.out HLM.out.1 HLM.out.2 HC3.out.1 HC3.out.2.1).mono ?_
      rintro e w10 ⟨rfl, g10, gk⟩
      have G10 := Lib.hid g10
      have GK := Lib.hid gk
      obtain ⟨q0, q1⟩ := HQC.out _ g10
      clear g10 gk
      go_wp2_with fail
      refine (HRF.out _ (l ++ m) _ _ (n + mn) false G10.out (HST.out.grown GK.out) HLM.out.1 HLM.out.2 HC3.out.2.2).mono ?_
      rintro e w11 ⟨rfl, g11⟩
      have GE := Lib.hid g11
      clear g11
      go_wp2_with fail
      go_ret
      exact ⟨rfl, HG1.out.trans GE.out⟩
end Go.Proofs.YtihaheinkpmnnaaGreat

namespace Go.Proofs.YtihaheinkpmnnaaGreat
open Go.ChangeShapes Go.WideShapes Go.ChangeAt Go.WideMaps Go.WideElems Go.RowKit

set_option maxRecDepth 100000 in
theorem checkerPrefixes_lifted (os : Os) (started : os.Started) (H : Type) (enc : TypeId × Value → H) :
    ReturnsInHanded {} Tryz.checked os 6 .any (Rows.checkerPrefixesSpec.pre6 enc Tryz.prog Tryz.f6 [] false) (Rows.checkerPrefixesSpec.post enc Tryz.prog Tryz.f6 false true false false) := by
  refine returnsInHanded_of_change (C := Tryz.checked) own started (by kernel_rfl) Tryz.func6
    (ChangeSpec.witness6 (enc := enc) (C := Tryz.checked) false ⟨#[], #[.agg #[.int .i64 0, .slice none 0 0], .slice none 0 0, .slice none 0 0, .slice none 0 0, .int .u8 0], []⟩ 8 (by kernel_rfl) (by kernel_rfl) (by kernel_rfl) (by kernel_rfl)) ?_
  intro W base args ds gs before hval0 hW _ _
  have hval : ∀ (j : Nat) t v, Tryz.f6.params[j]? = some t → args[j]? = some v → Value.okWide Tryz.prog W .any base t v := hval0
  have hW' := hW
  obtain ⟨p, q, hA0, hV, rfl, _, _⟩ := hW
  have hA : DataW.TrodAll enc Tryz.prog W 0 (fun _ => true) true Tryz.f6.params.toList args.toList ds p := hA0
  rw [Tryz.params6] at hA hval
  have hpl : ∀ x ∈ p, x.block < W.heap.size := fun x hx => hW'.lt x (by simp [hx])
  have hA2 := hA
  obtain ⟨v0, v1, v2, v3, v4, d0, d1, d2, d3, d4, p0, p1, p2, p3, p4, rfl, rfl, rfl, h0, h1, h2, h3, h4⟩ := trodAll_five20 hA
  obtain ⟨rfl, rfl⟩ := trodVars_none hV
  obtain ⟨x0, g0, ga0, gc0, rfl, hg0, hx0, hw0⟩ := open_cnf (hval 0 24 v0 rfl rfl) h0
  obtain ⟨m1, ma1, mc1, rfl, hm1, hn1, hw1⟩ := open_cls (hval 1 22 v1 rfl rfl) h1
  obtain ⟨s2, sa2, sc2, rfl, hs2, hn2, hw2⟩ := open_steps (hval 2 25 v2 rfl rfl) h2
  obtain ⟨s3, sa3, sc3, rfl, hs3, hn3, hw3⟩ := open_steps (hval 3 25 v3 rfl rfl) h3
  obtain ⟨z4, rfl, hz4⟩ := open_u8 (hval 4 5 v4 rfl rfl) h4
  refine (prefixes_calls x0 g0 ga0 gc0 m1 ma1 mc1 s2 sa2 sc2 s3 sa3 sc3 z4 W hg0 hm1 hs2 hs3 (by omega) (by omega) hn1 hn2 hn3 hw2 hw3).mono fun e W' ⟨he, hw⟩ => ?_
  subst he
  have hbl := below_of hw
  exact ⟨_, rfl, _, _, _, [], _, [], hW', trodAll_mk1 (shut_bool Tryz.underlying4 _), trodAll_below hbl (by decide +kernel) hA2 hpl, rfl, hbl.frame _, fun h => by cases h⟩

theorem checkerPrefixes_holds : Rows.CheckerPrefixesSaid :=
  OpenClaim.holds_of_wide 6 Tryz.f6 rfl rfl rfl rfl rfl rfl rfl ⟨rfl, rfl, rfl, rfl, rfl⟩ rfl rfl rfl rfl rfl (by kernel_rfl) Tryz.func6 (by kernel_rfl)
    (of_decide_eq_true (by kernel_rfl)) (by unfold Func.isWrapper; rw [if_neg (of_decide_eq_false (by kernel_rfl))]; exact ⟨rfl, rfl⟩)
    (fun os started H enc _ => checkerPrefixes_lifted os started H enc)
end Go.Proofs.YtihaheinkpmnnaaGreat
