/- The law on soundness. -/
import Derived.Test.YthkemajekkilmaaGA10
namespace Go.Proofs.Ythkemajekkilmaa
open Go.RowKit
set_option maxHeartbeats 16000000 in
set_option maxRecDepth 100000 in
theorem sound_calls (V : Int) (C : List (List Int)) (ca : Option Addr) (cc : Nat) (A : List Int) (aa : Option Addr) (ac : Nat) (B : List Int) (ba : Option Addr) (bc : Nat) (w : World) (h : ClsW w ca cc C) (hA : IntsW w aa ac A) (hB : IntsW w ba bc B) :
    Calls Try.prog 4 #[.agg #[.int .i64 V, .slice ca C.length cc], .slice aa A.length ac, .slice ba B.length bc] w fun e w' => e = .returned (.bool true) ∧ w.grownBy w' none := by
  obtain ⟨cn, hcn⟩ : ∃ n, C.length = n := ⟨_, rfl⟩
  obtain ⟨an, hAn⟩ : ∃ n, A.length = n := ⟨_, rfl⟩
  obtain ⟨bn, hBn⟩ : ∃ n, B.length = n := ⟨_, rfl⟩
  obtain ⟨W1, hW1⟩ : ∃ z, w.alloc (.cells #[.int .i64 V, .slice ca cn cc] 24) = z := ⟨_, rfl⟩
  obtain ⟨q0, q1, hg1⟩ := box_at w _ _ hW1
  obtain ⟨bf, hbf⟩ : ∃ z, w.heap.size = z := ⟨_, rfl⟩
  rw [hbf] at q0 q1
  have HC := Lib.hid (And.intro (h.grown hg1) hcn)
  have HA := Lib.hid (And.intro (hA.grown hg1) hAn)
  have HB := Lib.hid (And.intro (hB.grown hg1) hBn)
  have HG1 := Lib.hid hg1
  have HQ := Lib.hid (And.intro q0 q1)
  rw [hcn, hAn, hBn]
  clear h hcn hg1 q0 q1 hA hAn hB hBn
  go_enter Try.func4, Try.ntmps4
  go_wp2_with fail
  clear hW1
  refine (head_calls _).mono ?_
  rintro e w2 ⟨rfl, hg2⟩
  have q0 := hg2.cell HQ.out.1 (by simp)
  have q1 := hg2.cell HQ.out.2 (by simp)
  have G2 := Lib.hid hg2
  clear hg2
  have HS := small_calls V C ca cc w2 (HC.out.1.grown G2.out)
  rw [HC.out.2] at HS
  replace HS := Lib.hid HS
  go_wp2_with fail
  refine HS.out.mono ?_
  rintro e w3 ⟨rfl, hg⟩
  replace q0 := hg.cell q0 (by simp)
  replace q1 := hg.cell q1 (by simp)
  have G3 := Lib.hid (World.grownBy.trans G2.out hg)
  clear hg HS
  obtain ⟨sb, hsb⟩ : ∃ z, smallB V C = z := ⟨_, rfl⟩
  rw [hsb]
  cases sb
  case false =>
    go_wp2_with fail
    go_ret
    exact ⟨rfl, World.grownBy.trans HG1.out G3.out⟩
  obtain ⟨v, rfl, hv, hC40, hC12, hR⟩ := small_true hsb
  have HSM := Lib.hid (And.intro hC40 (And.intro hC12 hR))
  have hcn40 : cn ≤ 40 := by rw [← HC.out.2]; exact hC40
  clear hC40 hC12 hR hsb
  have HF := fits_calls (v : Int) ca cn cc A aa ac w3 (HA.out.1.grown G3.out) (by omega)
  rw [HA.out.2] at HF
  replace HF := Lib.hid HF
  go_wp2_with fail
  refine HF.out.mono ?_
  rintro e w4 ⟨rfl, hg⟩
  replace q0 := hg.cell q0 (by simp)
  replace q1 := hg.cell q1 (by simp)
  have G4 := Lib.hid (World.grownBy.trans G3.out hg)
  clear hg HF
  obtain ⟨fb, hfb⟩ : ∃ z, fitsB (v : Int) A = z := ⟨_, rfl⟩
  rw [hfb]
  cases fb
  case false =>
    go_wp2_with fail
    go_ret
    exact ⟨rfl, World.grownBy.trans HG1.out G4.out⟩
  have FA := Lib.hid (fits_true hfb)
  have an12 : an ≤ 12 := by rw [← HA.out.2]; exact FA.out.1
  clear hfb
  have HF := fits_calls (v : Int) ca cn cc B ba bc w4 (HB.out.1.grown G4.out) (by omega)
  rw [HB.out.2] at HF
  replace HF := Lib.hid HF
  go_wp2_with fail
  refine HF.out.mono ?_
  rintro e w5 ⟨rfl, hg⟩
  replace q0 := hg.cell q0 (by simp)
  replace q1 := hg.cell q1 (by simp)
  have G5 := Lib.hid (World.grownBy.trans G4.out hg)
  clear hg HF
  obtain ⟨fb, hfb⟩ : ∃ z, fitsB (v : Int) B = z := ⟨_, rfl⟩
  rw [hfb]
  cases fb
  case false =>
    go_wp2_with fail
    go_ret
    exact ⟨rfl, World.grownBy.trans HG1.out G5.out⟩
  have FB := Lib.hid (fits_true hfb)
  have bn12 : bn ≤ 12 := by rw [← HB.out.2]; exact FB.out.1
  clear hfb
  have HP := propagate_calls v C ca cc A aa ac w5 (HC.out.1.grown G5.out) (by omega) (by have := HSM.out.1; omega) (fun c hc => by have := HSM.out.2.1 c hc; omega) HSM.out.2.2 (HA.out.1.grown G5.out) (by have := FA.out.1; omega) FA.out.2
  rw [HC.out.2, HA.out.2] at HP
  replace HP := Lib.hid HP
  go_wp2_with fail
  refine HP.out.mono ?_
  rintro e w6 ⟨la, lc, rfl, hl, hg⟩
  replace q0 := hg.cell q0 (by simp)
  replace q1 := hg.cell q1 (by simp)
  have G6 := Lib.hid (World.grownBy.trans G5.out hg)
  have Hl := Lib.hid hl
  clear hg HP hl
  have HI := implies_calls v C ca cc B ba bc w6 (HC.out.1.grown G6.out) (by omega) (by have := HSM.out.1; omega) (fun c hc => by have := HSM.out.2.1 c hc; omega) HSM.out.2.2 (HB.out.1.grown G6.out) (by have := FB.out.1; omega) FB.out.2
  rw [HC.out.2, HB.out.2] at HI
  replace HI := Lib.hid HI
  go_wp2_with fail
  refine HI.out.mono ?_
  rintro e w7 ⟨⟨ib, rfl, hib⟩, hg⟩
  replace q0 := hg.cell q0 (by simp)
  replace q1 := hg.cell q1 (by simp)
  have G7 := Lib.hid (World.grownBy.trans G6.out hg)
  have HIB := Lib.hid hib
  have H67 := Lib.hid hg
  clear hg HI hib
  obtain ⟨ln, hln⟩ : ∃ z, (impP v C A).length = z := ⟨_, rfl⟩
  have hlv : ln ≤ v := by rw [← hln]; exact imp_le HSM.out.2.2 A
  have HLN := Lib.hid (And.intro hln (Hl.out.grown H67.out))
  have HW := within_calls (v : Int) (impP v C A) la lc w7 HLN.out.2 (by omega) (by omega)
  rw [all_inRb (imp_range HSM.out.2.2 A), hln] at HW
  rw [hln]
  obtain ⟨kf, hkf⟩ : ∃ z, cfP v C A = z := ⟨_, rfl⟩
  rw [hkf]
  have HKF := Lib.hid hkf
  replace HW := Lib.hid HW
  clear hln hkf
  go_wp2_with fail
  refine HW.out.mono ?_
  rintro e w8 ⟨rfl, hw8⟩
  rw [hw8]
  clear hw8 w8 HW
  obtain ⟨N, hN⟩ : ∃ N : Nat, 2 ^ v = N := ⟨_, rfl⟩
  have hN256 : N ≤ 256 := by rw [← hN]; exact Nat.pow_le_pow_right (by omega) (show v ≤ 8 from hv)
  have hsh : wrap64 ((2 : Int) ^ v) = (N : Int) := by
    rw [show ((2 : Int) ^ v) = (N : Int) from by rw [← hN]; simp]
    exact IntWalk.wrap64_in _ ⟨by omega, by omega⟩
  clear hN
  go_wp2_with fail
  go_loopg [11, 12] N (fun gk s11 _s12 wr => ∃ k : Nat, s11 = .int .i64 (k : Int) ∧ gk = N - k ∧ k ≤ N ∧ w7.grownBy wr none)
  case atStart => exact ⟨0, rfl, rfl, by omega, grown_refl _ _⟩
  case round =>
    obtain ⟨k, rfl, hgk, hk, hg⟩ := hrel
    have HI := Lib.hid (And.intro hgk hg)
    replace q0 := hg.cell q0 (by simp)
    replace q1 := hg.cell q1 (by simp)
    clear hgk hg
    by_cases hkN : k < N
    · have f1 : decide ((k : Int) < (N : Int)) = true := decide_eq_true (by omega)
      have f1' : decide (k < N) = true := decide_eq_true hkN
      have k1 : IntKind.i64.wrap ((k : Int) + 1) = (k : Int) + 1 := IntWalk.i64_in _ (by omega)
      have HAS := Lib.hid (assignment_calls v (k : Int) wr (by omega) (by omega) (by omega))
      go_wp2_with fail
      refine HAS.out.mono ?_
      rintro e wa ⟨va, vc, rfl, hown, hga⟩
      obtain ⟨vs, hvs⟩ : ∃ z, asgP v (k : Int) = z := ⟨_, rfl⟩
      rw [hvs] at hown
      obtain ⟨hvl, hbw⟩ := bw_own hown
      replace q0 := hga.cell q0 (by simp)
      replace q1 := hga.cell q1 (by simp)
      have HGA := Lib.hid (World.grownBy.trans HI.out.2 hga)
      have HV := Lib.hid (And.intro hvl hbw)
      have hR' : Ran vs.length C := by rw [hvl]; exact HSM.out.2.2
      have HAL := all_calls vs va vc C ca cc wa hbw (HC.out.1.grown (World.grownBy.trans G7.out HGA.out)) (by have := HSM.out.1; omega) (fun c hc => by have := HSM.out.2.1 c hc; omega) (by omega) hR'
      rw [hvl, HC.out.2] at HAL
      replace HAL := Lib.hid HAL
      clear HAS hown hga hvs hbw hR' hvl
      go_wp2_with fail
      refine HAL.out.mono ?_
      rintro e wb ⟨rfl, hwb⟩
      rw [hwb]
      clear hwb wb HAL
      obtain ⟨al, hal⟩ : ∃ z, (C.all fun c => c.any (litT vs)) = z := ⟨_, rfl⟩
      rw [hal]
      cases al
      case false =>
        clear hal
        go_wp2_with fail
        go_roundg (N - (k + 1))
        case measure => rw [HI.out.1]; omega
        case rel => exact ⟨k + 1, rfl, rfl, by omega, HGA.out⟩
      have HM := Lib.hid (List.all_eq_true.1 hal)
      clear hal
      have hEA := each_calls vs va vc A aa ac wa HV.out.2 (HA.out.1.grown (World.grownBy.trans G7.out HGA.out)) (by have := FA.out.1; omega) (by rw [HV.out.1]; omega) (by rw [HV.out.1]; exact FA.out.2)
      rw [HV.out.1, HA.out.2] at hEA
      have HEA := Lib.hid hEA
      have hEL := each_calls vs va vc (impP v C A) la lc wa HV.out.2 (HLN.out.2.grown HGA.out) (by rw [HLN.out.1]; omega) (by rw [HV.out.1]; omega) (by rw [HV.out.1]; exact imp_range HSM.out.2.2 A)
      rw [HV.out.1, HLN.out.1] at hEL
      have HEL := Lib.hid hEL
      clear hEA hEL
      have HREST : Hid (A.all (litT vs) = true → kf = -1 ∧ (impP v C A).all (litT vs) = true) := Lib.hid (fun hall => by
        have := prop_sound HSM.out.2.2 FA.out.2 HM.out hall
        rwa [HKF.out] at this)
      obtain ⟨ea, hea⟩ : ∃ z, A.all (litT vs) = z := ⟨_, rfl⟩
      rw [hea] at HEA
      cases ib
      case false =>
        go_wp2_with fail
        refine HEA.out.mono ?_
        rintro e wb ⟨rfl, hwb⟩
        rw [hwb]
        clear hwb wb HEA
        cases ea
        case false =>
          go_wp2_with fail
          go_roundg (N - (k + 1))
          case measure => rw [HI.out.1]; omega
          case rel => exact ⟨k + 1, rfl, rfl, by omega, HGA.out⟩
        obtain ⟨hkf1, hal2⟩ := HREST.out hea
        rw [hal2] at HEL
        subst hkf1
        clear hea hal2
        go_wp2_with fail
        refine HEL.out.mono ?_
        rintro e wb ⟨rfl, hwb⟩
        rw [hwb]
        clear hwb wb HEL
        go_wp2_with fail
        go_roundg (N - (k + 1))
        case measure => rw [HI.out.1]; omega
        case rel => exact ⟨k + 1, rfl, rfl, by omega, HGA.out⟩
      have hTB := true_calls vs va vc B ba bc wa HV.out.2 (HB.out.1.grown (World.grownBy.trans G7.out HGA.out)) (by have := FB.out.1; omega) (by rw [HV.out.1]; omega) (by rw [HV.out.1]; exact FB.out.2)
      rw [HV.out.1, HB.out.2, implies_sound HSM.out.2.2 FB.out.2 HM.out (HIB.out.1 (by trivial))] at hTB
      have HTB := Lib.hid hTB
      clear hTB
      go_wp2_with fail
      refine HTB.out.mono ?_
      rintro e wb ⟨rfl, hwb⟩
      rw [hwb]
      clear hwb wb HTB
      go_wp2_with fail
      refine HEA.out.mono ?_
      rintro e wb ⟨rfl, hwb⟩
      rw [hwb]
      clear hwb wb HEA
      cases ea
      case false =>
        go_wp2_with fail
        go_roundg (N - (k + 1))
        case measure => rw [HI.out.1]; omega
        case rel => exact ⟨k + 1, rfl, rfl, by omega, HGA.out⟩
      obtain ⟨hkf1, hal2⟩ := HREST.out hea
      rw [hal2] at HEL
      subst hkf1
      clear hea hal2
      go_wp2_with fail
      refine HEL.out.mono ?_
      rintro e wb ⟨rfl, hwb⟩
      rw [hwb]
      clear hwb wb HEL
      go_wp2_with fail
      go_roundg (N - (k + 1))
      case measure => rw [HI.out.1]; omega
      case rel => exact ⟨k + 1, rfl, rfl, by omega, HGA.out⟩
    · have hke : k = N := by omega
      subst hke
      have f1 : decide (k < k) = false := by simp
      go_wp2_with fail
      go_ret
      exact ⟨rfl, World.grownBy.trans HG1.out (World.grownBy.trans G7.out HI.out.2)⟩
end Go.Proofs.Ythkemajekkilmaa
