/- The law on order. -/
import Derived.Test.YthkemajekkilmaaGA10
namespace Go.Proofs.Ythkemajekkilmaa
open Go.RowKit
set_option maxHeartbeats 16000000 in
set_option maxRecDepth 100000 in
theorem order_calls (V : Int) (C : List (List Int)) (ca : Option Addr) (cc : Nat) (A : List Int) (aa : Option Addr) (ac : Nat) (y : Nat) (w : World) (h : ClsW w ca cc C) (hA : IntsW w aa ac A) (hy : y < 256) :
    Calls Try.prog 6 #[.agg #[.int .i64 V, .slice ca C.length cc], .slice aa A.length ac, .int .u8 (y : Int)] w fun e w' => e = .returned (.bool true) ∧ w.grownBy w' none := by
  obtain ⟨cn, hcn⟩ : ∃ n, C.length = n := ⟨_, rfl⟩
  obtain ⟨an, hAn⟩ : ∃ n, A.length = n := ⟨_, rfl⟩
  obtain ⟨W1, hW1⟩ : ∃ z, w.alloc (.cells #[.int .i64 V, .slice ca cn cc] 24) = z := ⟨_, rfl⟩
  obtain ⟨q0, q1, hg1⟩ := box_at w _ _ hW1
  obtain ⟨bf, hbf⟩ : ∃ z, w.heap.size = z := ⟨_, rfl⟩
  rw [hbf] at q0 q1
  have HC := Lib.hid (And.intro (h.grown hg1) hcn)
  have HA := Lib.hid (And.intro (hA.grown hg1) hAn)
  have HG1 := Lib.hid hg1
  have HQ := Lib.hid (And.intro q0 q1)
  rw [hcn, hAn]
  clear h hcn hg1 q0 q1 hA hAn
  go_enter Try.func6, Try.ntmps6
  go_wp2_with fail
  clear hW1
  refine (head_calls _).mono ?_
  rintro e w2 ⟨rfl, hg2⟩
  have q0 := hg2.cell HQ.out.1 (by simp)
  have q1 := hg2.cell HQ.out.2 (by simp)
  have G2 := Lib.hid hg2
  clear hg2
  have HS := small_calls V C ca cc w2 (HC.out.1.grown G2.out)
  rw [HC.out.2] at HS
  replace HS := Lib.hid HS
  go_wp2_with fail
  refine HS.out.mono ?_
  rintro e w3 ⟨rfl, hg⟩
  replace q0 := hg.cell q0 (by simp)
  replace q1 := hg.cell q1 (by simp)
  have G3 := Lib.hid (World.grownBy.trans G2.out hg)
  clear hg HS
  obtain ⟨sb, hsb⟩ : ∃ z, smallB V C = z := ⟨_, rfl⟩
  rw [hsb]
  cases sb
  case false =>
    go_wp2_with fail
    go_ret
    exact ⟨rfl, World.grownBy.trans HG1.out G3.out⟩
  obtain ⟨v, rfl, hv, hC40, hC12, hR⟩ := small_true hsb
  have HSM := Lib.hid (And.intro hC40 (And.intro hC12 hR))
  have hcn40 : cn ≤ 40 := by rw [← HC.out.2]; exact hC40
  clear hC40 hC12 hR hsb
  have HF := fits_calls (v : Int) ca cn cc A aa ac w3 (HA.out.1.grown G3.out) (by omega)
  rw [HA.out.2] at HF
  replace HF := Lib.hid HF
  go_wp2_with fail
  refine HF.out.mono ?_
  rintro e w4 ⟨rfl, hg⟩
  replace q0 := hg.cell q0 (by simp)
  replace q1 := hg.cell q1 (by simp)
  have G4 := Lib.hid (World.grownBy.trans G3.out hg)
  clear hg HF
  obtain ⟨fb, hfb⟩ : ∃ z, fitsB (v : Int) A = z := ⟨_, rfl⟩
  rw [hfb]
  cases fb
  case false =>
    go_wp2_with fail
    go_ret
    exact ⟨rfl, World.grownBy.trans HG1.out G4.out⟩
  have FA := Lib.hid (fits_true hfb)
  have an12 : an ≤ 12 := by rw [← HA.out.2]; exact FA.out.1
  clear hfb
  have k5 : IntKind.i64.wrap ((an : Int) - 1) = (an : Int) - 1 := IntWalk.i64_in _ (by omega)
  have HQ4 := Lib.hid (And.intro q0 q1)
  clear q0 q1
  go_wp2_with fail
  clear k5
  go_loopg [8, 9] an (fun gk s8 s9 w' => ∃ (q : Nat) (da : Option Addr) (dc : Nat), s8 = .slice da (an - q) dc ∧ s9 = .int .i64 ((q : Int) - 1) ∧ gk = q ∧ q ≤ an ∧ w4.grownBy w' none ∧ w'.ownsRow w4.heap.size 3 1 (.slice da (an - q) dc) (an - q) (intCells (A.reverse.take (an - q))))
  case atStart => exact ⟨an, none, 0, by rw [Nat.sub_self], rfl, rfl, Nat.le_refl _, grown_refl _ _, by rw [Nat.sub_self]; exact ⟨rfl, .inl ⟨rfl, rfl⟩⟩⟩
  case round =>
    obtain ⟨q, da, dc, rfl, rfl, hgk, hq, hg, hown⟩ := hrel
    obtain ⟨i0, hi0, hz0, hz1, hz2⟩ := info_parts info3
    cases q with
    | succ i =>
      obtain ⟨x, hx⟩ : ∃ x, A[i]? = some x := ⟨_, List.getElem?_eq_getElem (by rw [HA.out.2]; omega)⟩
      have hst := rev_step HA.out.2 hx
      obtain ⟨b1, o1, hb1, hc1⟩ := (HA.out.1.grown (World.grownBy.trans G4.out hg)).at hx
      subst hb1
      have e0 : (((i + 1 : Nat) : Int) - 1) = (i : Int) := by omega
      have e1 : decide ((0 : Int) ≤ (i : Int)) = true := decide_eq_true (by omega)
      have e2 : (0 : Int) ≤ (i : Int) := by omega
      have e3 : (i : Int) < (an : Int) := by omega
      have e4 : IntKind.i64.wrap ((i : Int) - 1) = (i : Int) - 1 := IntWalk.i64_in _ (by omega)
      rw [e0]
      have HJ := Lib.hid (And.intro hgk (And.intro hg (And.intro hown hst)))
      obtain ⟨p, hp⟩ : ∃ p, an - (i + 1) = p := ⟨_, rfl⟩
      have hp1 : p + 1 = an - i := by omega
      rw [hp] at HJ ⊢
      obtain ⟨L, hL⟩ : ∃ L, A.reverse.take p = L := ⟨_, rfl⟩
      rw [hL] at HJ
      have HP1 := Lib.hid (And.intro hp1 hL)
      have hsz : w4.heap.size ≤ wr.heap.size := hg.size
      have hp100 : p ≤ 100 := by omega
      clear hgk hg hown hst hx e0 hp1 hL hp
      go_wp2_with (at_builtin; refine wpList_append_own_at _ rfl _ _ 25 rfl w4.heap.size 3 i0 (.int .i64 0) 1 8 Try.underlying25 hi0 hz0 hz1 hz2 rfl (by decide) _ p (intCells L) rfl (HJ.out.2.2.1.alloc _) ⟨wr.heap.size, 0, none⟩ 1 1 [.int .i64 x] rfl rfl (cell_one_new _ _ _) (fun u hu => by simp at hu; subst hu; rfl) (by unfold maxLen; omega) (by omega) (by simp; omega) ?_)
      intro v' w7 hown' hgrow7 _ _
      obtain ⟨ra, rc, rfl⟩ := own_shape hown'
      have HN := Lib.hid (And.intro (grown_own HJ.out.2.1 ((World.grownBy_alloc wr _ _).trans hgrow7) (own_low HJ.out.2.2.1)) hown')
      clear hown' hgrow7 hc1
      go_wp2_with fail
      go_roundg i
      case measure => rw [HJ.out.1]; omega
      case rel => exact ⟨i, ra, rc, by rw [← HP1.out.1], rfl, rfl, by omega, HN.out.1, by rw [HJ.out.2.2.2, ← HP1.out.1, intCells, List.map_append]; exact HN.out.2⟩
    | zero =>
      have e1 : decide ((0 : Int) ≤ ((0 : Nat) : Int) - 1) = false := rfl
      rw [Nat.sub_zero] at hown ⊢
      obtain ⟨Bk, hBk⟩ : ∃ B, A.reverse = B := ⟨_, rfl⟩
      have hBl : Bk.length = an := by rw [← hBk, List.length_reverse]; exact HA.out.2
      rw [hBk, ← hBl, List.take_length, hBl] at hown
      have HG5 := Lib.hid (World.grownBy.trans G4.out hg)
      have HBK := Lib.hid (And.intro (own_ints hown).2 (And.intro hBl hBk))
      have q0 := hg.cell HQ4.out.1 (by simp)
      have q1 := hg.cell HQ4.out.2 (by simp)
      clear hown hg hgk hi0 hz0 hz1 hz2 hBl hBk
      have HP := propagate_calls v C ca cc A aa ac wr (HC.out.1.grown HG5.out) (by omega) (by have := HSM.out.1; omega) (fun c hc => by have := HSM.out.2.1 c hc; omega) HSM.out.2.2 (HA.out.1.grown HG5.out) (by have := FA.out.1; omega) FA.out.2
      rw [HC.out.2, HA.out.2] at HP
      replace HP := Lib.hid HP
      go_wp2_with fail
      refine HP.out.mono ?_
      rintro e w6 ⟨la, lc, rfl, hl, hg6⟩
      replace q0 := hg6.cell q0 (by simp)
      replace q1 := hg6.cell q1 (by simp)
      have HG6 := Lib.hid hg6
      have HL1 := Lib.hid hl
      clear HP hl hg6
      have HTU := turned_calls v C ca cc y w6 (HC.out.1.grown (World.grownBy.trans HG5.out HG6.out)) (by have := HSM.out.1; omega) (fun c hc => by have := HSM.out.2.1 c hc; omega) hy
      rw [HC.out.2] at HTU
      replace HTU := Lib.hid HTU
      obtain ⟨ln, hln⟩ : ∃ z, (impP v C A).length = z := ⟨_, rfl⟩
      obtain ⟨kf, hkf⟩ : ∃ z, cfP v C A = z := ⟨_, rfl⟩
      rw [hln, hkf]
      have HLN := Lib.hid (And.intro hln hkf)
      have hlv : ln ≤ v := by rw [← hln]; exact imp_le HSM.out.2.2 A
      clear hln hkf
      go_wp2_with fail
      refine HTU.out.mono ?_
      rintro e w7 ⟨ta, tc, rfl, hcl, hg7⟩
      have HG7 := Lib.hid (World.grownBy.trans HG6.out hg7)
      have HL7 := Lib.hid (HL1.out.grown hg7)
      obtain ⟨D, hD⟩ : ∃ D, turnP C y = D := ⟨_, rfl⟩
      rw [hD] at hcl
      have hDl : D.length = cn := by rw [← hD, turn_len, HC.out.2]
      have HD := Lib.hid (And.intro hD (And.intro hDl (And.intro (show Ran v D from by rw [← hD]; exact turn_ran HSM.out.2.2 y) (show ∀ d ∈ D, d.length ≤ 12 from by rw [← hD]; exact turn_short HSM.out.2.1 y))))
      have HP2 := propagate_calls v D ta tc Bk da dc w7 hcl (by omega) (by omega) (fun c hc => by have := HD.out.2.2.2 c hc; omega) HD.out.2.2.1 (HBK.out.1.grown HG7.out) (by rw [HBK.out.2.1]; omega) (fun x hx => FA.out.2 x (by rw [← HBK.out.2.2] at hx; exact List.mem_reverse.1 hx))
      rw [hDl, HBK.out.2.1] at HP2
      replace HP2 := Lib.hid HP2
      clear HTU hcl hg7 hD hDl q0 q1
      go_wp2_with fail
      refine HP2.out.mono ?_
      rintro e w8 ⟨ma, mc, rfl, hm, hg8⟩
      have HM := Lib.hid hm
      have HL8 := Lib.hid (HL7.out.grown hg8)
      have HG8 := Lib.hid (World.grownBy.trans HG5.out (World.grownBy.trans HG7.out hg8))
      clear HP2 hm hg8
      obtain ⟨mn, hmn⟩ : ∃ z, (impP v D Bk).length = z := ⟨_, rfl⟩
      obtain ⟨kg, hkg⟩ : ∃ z, cfP v D Bk = z := ⟨_, rfl⟩
      rw [hmn, hkg]
      have hmv : mn ≤ v := by rw [← hmn]; exact imp_le HD.out.2.2.1 Bk
      have HMN := Lib.hid (And.intro hmn hkg)
      clear hmn hkg
      have hos := order_same HSM.out.2.2 HD.out.2.2.1 (by rw [← HD.out.1]; exact turn_onto C y) (by rw [← HD.out.1]; exact turn_from C y) (A := A) (B := Bk) (fun x => by rw [← HBK.out.2.2, List.mem_reverse])
      rw [HLN.out.1, HLN.out.2, HMN.out.1, HMN.out.2] at hos
      have HOS := Lib.hid hos
      by_cases hk : kf = -1
      · have hk2 : kg = -1 := hos.2.2.1.1 hk
        have hlm := (hos.2.2.2 hk).2
        have hmem := (hos.2.2.2 hk).1
        clear hos
        subst hk hk2 hlm
        have hI1 := in_calls (impP v C A) (impP v D Bk) la ma lc mc w8 HL8.out HM.out (by rw [HLN.out.1]; omega) (by rw [HMN.out.1]; omega)
        have hI2 := in_calls (impP v D Bk) (impP v C A) ma la mc lc w8 HM.out HL8.out (by rw [HMN.out.1]; omega) (by rw [HLN.out.1]; omega)
        rw [HLN.out.1, HMN.out.1, decide_eq_true (fun x hx => (hmem x).1 hx)] at hI1
        rw [HLN.out.1, HMN.out.1, decide_eq_true (fun x hx => (hmem x).2 hx)] at hI2
        have HI1 := Lib.hid hI1
        have HI2 := Lib.hid hI2
        clear hI1 hI2 hmem
        go_wp2_with fail
        refine HI1.out.mono ?_
        rintro e w9 ⟨rfl, hw9⟩
        rw [hw9]
        clear hw9 w9 HI1
        go_wp2_with fail
        refine HI2.out.mono ?_
        rintro e w9 ⟨rfl, hw9⟩
        rw [hw9]
        clear hw9 w9 HI2
        go_wp2_with fail
        go_ret
        exact ⟨rfl, World.grownBy.trans HG1.out HG8.out⟩
      · have c1 : (kf != -1) = true := by simpa using hk
        have c1' : decide (kf = -1) = false := decide_eq_false hk
        obtain ⟨pa, hpa⟩ : ∃ z, decide (0 ≤ kf) = z := ⟨_, rfl⟩
        have hpb : decide (0 ≤ kg) = pa := by rw [← hpa]; exact decide_eq_decide.2 hos.2.1.symm
        obtain ⟨pc, hpc⟩ : ∃ z, (kf == -2) = z := ⟨_, rfl⟩
        have hpd : (kg == -2) = pc := by rw [← hpc, Bool.eq_iff_iff]; simpa using hos.1.symm
        have hpc' : decide (kf = -2) = pc := by rw [← hpc]; rfl
        have hpd' : decide (kg = -2) = pc := by rw [← hpd]; rfl
        clear hos
        go_wp2_with fail
        go_ret
        exact ⟨rfl, World.grownBy.trans HG1.out HG8.out⟩
end Go.Proofs.Ythkemajekkilmaa
