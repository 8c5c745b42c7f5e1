/- The law on what a run leaves. -/
import Derived.Test.YthkemajekkilmaaGA10
namespace Go.Proofs.Ythkemajekkilmaa
open Go.RowKit
set_option maxHeartbeats 16000000 in
set_option maxRecDepth 100000 in
theorem closed_calls (V : Int) (C : List (List Int)) (ca : Option Addr) (cc : Nat) (A : List Int) (aa : Option Addr) (ac : Nat) (w : World) (h : ClsW w ca cc C) (hA : IntsW w aa ac A) :
    Calls Try.prog 5 #[.agg #[.int .i64 V, .slice ca C.length cc], .slice aa A.length ac] w fun e w' => e = .returned (.bool true) ∧ w.grownBy w' none := by
  obtain ⟨cn, hcn⟩ : ∃ n, C.length = n := ⟨_, rfl⟩
  obtain ⟨an, han⟩ : ∃ n, A.length = n := ⟨_, rfl⟩
  obtain ⟨W1, hW1⟩ : ∃ z, w.alloc (.cells #[.int .i64 V, .slice ca cn cc] 24) = z := ⟨_, rfl⟩
  obtain ⟨q0, q1, hg1⟩ := box_at w _ _ hW1
  obtain ⟨bf, hbf⟩ : ∃ z, w.heap.size = z := ⟨_, rfl⟩
  rw [hbf] at q0 q1
  have HH := Lib.hid (And.intro (h.grown hg1) (And.intro (hA.grown hg1) (And.intro hcn han)))
  have HG1 := Lib.hid hg1
  have HQ := Lib.hid (And.intro q0 q1)
  rw [hcn, han]
  clear h hA hcn han hg1 q0 q1
  go_enter Try.func5, Try.ntmps5
  go_wp2_with fail
  clear hW1
  refine (head_calls _).mono ?_
  rintro e w2 ⟨rfl, hg2⟩
  have q0 := hg2.cell HQ.out.1 (by simp)
  have q1 := hg2.cell HQ.out.2 (by simp)
  have HG2 := Lib.hid hg2
  clear hg2
  have HS := small_calls V C ca cc w2 (HH.out.1.grown HG2.out)
  rw [HH.out.2.2.1] at HS
  replace HS := Lib.hid HS
  go_wp2_with fail
  refine HS.out.mono ?_
  rintro e w3 ⟨rfl, hg3⟩
  replace q0 := hg3.cell q0 (by simp)
  replace q1 := hg3.cell q1 (by simp)
  have HG3 := Lib.hid (World.grownBy.trans HG2.out hg3)
  clear hg3 HS
  obtain ⟨sb, hsb⟩ : ∃ z, smallB V C = z := ⟨_, rfl⟩
  rw [hsb]
  cases sb with
  | false =>
    go_wp2_with fail
    go_ret
    exact ⟨rfl, World.grownBy.trans HG1.out HG3.out⟩
  | true =>
    obtain ⟨v, rfl, hv, hC40, hC12, hR⟩ := small_true hsb
    have HSM := Lib.hid (And.intro hC40 (And.intro hC12 hR))
    clear hC40 hC12 hR hsb
    have HF := fits_calls (v : Int) ca cn cc A aa ac w3 (HH.out.2.1.grown HG3.out) (by omega)
    rw [HH.out.2.2.2] at HF
    replace HF := Lib.hid HF
    go_wp2_with fail
    refine HF.out.mono ?_
    rintro e w4 ⟨rfl, hg4⟩
    replace q0 := hg4.cell q0 (by simp)
    replace q1 := hg4.cell q1 (by simp)
    have HG4 := Lib.hid (World.grownBy.trans HG3.out hg4)
    clear hg4 HF
    obtain ⟨fb, hfb⟩ : ∃ z, fitsB (v : Int) A = z := ⟨_, rfl⟩
    rw [hfb]
    cases fb with
    | false =>
      go_wp2_with fail
      go_ret
      exact ⟨rfl, World.grownBy.trans HG1.out HG4.out⟩
    | true =>
      obtain ⟨hA12, hAr⟩ := fits_true hfb
      have HA := Lib.hid (And.intro hA12 hAr)
      clear hA12 hAr hfb
      have HP := propagate_calls v C ca cc A aa ac w4 (HH.out.1.grown HG4.out) (by omega) (by have := HSM.out.1; omega) (fun c hc => by have := HSM.out.2.1 c hc; omega) HSM.out.2.2 (HH.out.2.1.grown HG4.out) (by have := HA.out.1; omega) HA.out.2
      rw [HH.out.2.2.1, HH.out.2.2.2] at HP
      replace HP := Lib.hid HP
      go_wp2_with fail
      refine HP.out.mono ?_
      rintro e w5 ⟨la, lc, rfl, hl, hg5⟩
      replace q0 := hg5.cell q0 (by simp)
      replace q1 := hg5.cell q1 (by simp)
      have HG5 := Lib.hid (World.grownBy.trans HG4.out hg5)
      have HL := Lib.hid hl
      clear hg5 HP hl
      have HK := contradictory_calls A aa ac w5 (HH.out.2.1.grown HG5.out) (by have := HA.out.1; omega) (fun x hx => by obtain ⟨_, a1, a2⟩ := HA.out.2 x hx; omega)
      rw [HH.out.2.2.2] at HK
      replace HK := Lib.hid HK
      go_wp2_with fail
      refine HK.out.mono ?_
      rintro e w6 ⟨rfl, hw6⟩
      rw [hw6]
      clear hw6 w6 HK
      obtain ⟨ln, hln⟩ : ∃ z, (impP v C A).length = z := ⟨_, rfl⟩
      obtain ⟨kf, hkf⟩ : ∃ z, cfP v C A = z := ⟨_, rfl⟩
      obtain ⟨cb, hcb⟩ : ∃ z, contraP A = z := ⟨_, rfl⟩
      rw [hln, hkf, hcb]
      cases cb with
      | true =>
        have e1 : ln = 0 := by rw [← hln]; unfold impP; rw [propP_contra hcb]; rfl
        have e2 : kf = -2 := by rw [← hkf]; unfold cfP; rw [propP_contra hcb]
        subst e1 e2
        clear hln hkf hcb
        go_wp2_with fail
        go_ret
        exact ⟨rfl, World.grownBy.trans HG1.out HG5.out⟩
      | false =>
        have hcl := closed_all HSM.out.2.2 hcb
        rw [hkf] at hcl
        have hil : ln ≤ v := by rw [← hln]; exact imp_le HSM.out.2.2 A
        have hk1 : -1 ≤ kf ∧ kf < (cn : Int) := by
          by_cases hk : kf = -1
          · omega
          · obtain ⟨i, h1, h2, _⟩ := hcl.2.2 hk
            rw [HH.out.2.2.1] at h2
            omega
        have c1 : decide (kf < -1) = false := decide_eq_false (by omega)
        have c2 : decide ((cn : Int) ≤ kf) = false := decide_eq_false (by omega)
        have HCL := Lib.hid (And.intro hcl (And.intro hln hil))
        clear hcl hln hcb
        have hsz5 : w5.heap.size ≤ w5.heap.size := Nat.le_refl _
        have hown0 := own_empty w5
        obtain ⟨W6, hW6⟩ : ∃ z, w5.alloc (.cells #[] 3) = z := ⟨_, rfl⟩
        obtain ⟨b5, hb5⟩ : ∃ z, w5.heap.size = z := ⟨_, rfl⟩
        have hg6 := World.grownBy_alloc w5 (.cells #[] 3) none
        rw [hW6] at hg6 hown0
        rw [hb5] at hown0
        have HO := Lib.hid (And.intro hown0 (And.intro hg6 hb5))
        clear hown0 hg6 hsz5 hkf
        go_wp2_with (at_builtin; refine wpList_appI rfl _ _ rfl b5 (some ⟨b5, 0, none⟩) 0 0 [] A aa ac an rfl rfl HO.out.1 (HH.out.2.1.grown (World.grownBy.trans HG5.out HO.out.2.1)) HH.out.2.2.2 (by have := HA.out.1; rw [HH.out.2.2.2] at this; omega) (by rw [← HO.out.2.2]; exact HO.out.2.1.size) A rfl an (Nat.zero_add _) ?_)
        intro ra rc w7 hown7 hg7
        have HO7 := Lib.hid (And.intro hown7 (grown_own HO.out.2.1 hg7 (fun r e => by cases e; rw [HO.out.2.2]; exact Nat.le_refl _)))
        clear hown7 hg7 hW6 hb5
        obtain ⟨AL, hAL⟩ : ∃ z, A ++ impP v C A = z := ⟨_, rfl⟩
        obtain ⟨aln, haln⟩ : ∃ z, an + ln = z := ⟨_, rfl⟩
        rw [hAL] at HCL
        go_wp2_with (at_builtin; refine wpList_appI rfl _ _ rfl b5 ra rc an A (impP v C A) la lc ln rfl rfl HO7.out.1 (HL.out.grown HO7.out.2) HCL.out.2.1 (by have := HA.out.1; rw [HH.out.2.2.2] at this; omega) (by rw [← HO.out.2.2]; exact HO7.out.2.size) AL hAL aln haln ?_)
        intro ra8 rc8 w8 hown8 hg8
        have HO8 := Lib.hid (And.intro (own_ints hown8) (grown_own HO7.out.2 hg8 (fun r e => by have := own_low HO7.out.1 r e; rw [HO.out.2.2]; exact this)))
        clear hown8 hg8
        have hbd : ∀ x ∈ AL, InR v x := fun x hx => by
          rw [← hAL] at hx
          exact (List.mem_append.1 hx).elim (HA.out.2 x) (imp_range HSM.out.2.2 A x)
        have hlen : AL.length ≤ 100 := by rw [← hAL, List.length_append]; have := HA.out.1; have := HCL.out.2; omega
        have HK := contradictory_calls AL ra8 rc8 w8 HO8.out.1.2 (by omega) (fun x hx => by obtain ⟨_, a1, a2⟩ := hbd x hx; omega)
        rw [HO8.out.1.1, HCL.out.1.1] at HK
        replace HK := Lib.hid HK
        have HBD := Lib.hid (And.intro hbd hlen)
        replace q0 := HO8.out.2.cell q0 (by simp)
        replace q1 := HO8.out.2.cell q1 (by simp)
        clear hbd hlen
        go_wp2_with fail
        refine HK.out.mono ?_
        rintro e w9 ⟨rfl, hw9⟩
        rw [hw9]
        clear hw9 w9 HK
        have d1 : decide ((v : Int) < (ln : Int)) = false := decide_eq_false (by omega)
        have d2 : decide (v < ln) = false := decide_eq_false (by omega)
        have HST : Hid (∀ (z : List Int), z ∈ C → ∀ a c, IntsW w8 a c z → Calls Try.prog 28 #[.slice a z.length c, .slice ra8 aln rc8] w8 fun e w' => e = .returned (.tuple #[.int .i64 (stP AL z).1, .int .i64 (stP AL z).2]) ∧ w' = w8) := Lib.hid (fun z hz a c hi => by
          have := status_calls z AL a ra8 c rc8 w8 hi HO8.out.1.2 (by have := HSM.out.2.1 z hz; omega) (by have := HBD.out.2; omega) (fun x hx => by obtain ⟨a0, a1, a2⟩ := HSM.out.2.2 z hz x hx; exact ⟨a0, by omega, by omega⟩)
          rwa [HO8.out.1.1] at this)
        have HCW : Hid (ClsW w8 ca cc C) := Lib.hid (HH.out.1.grown (World.grownBy.trans HG5.out HO8.out.2))
        by_cases hk : kf = -1
        · subst hk
          have hcn40 : cn ≤ 40 := by have := HSM.out.1; rw [HH.out.2.2.1] at this; exact this
          go_wp2_with fail
          go_loopg [13] cn (fun gk s13 w' => ∃ k : Nat, s13 = .int .i64 (k : Int) ∧ gk = cn - k ∧ k ≤ cn ∧ w' = w8)
          case atStart => exact ⟨0, rfl, rfl, by omega, rfl⟩
          case round =>
            obtain ⟨k, rfl, hgk, hkc, rfl⟩ := hrel
            have HI := Lib.hid hgk
            clear hgk
            by_cases hkn : k < cn
            · have f1 : decide ((k : Int) < (cn : Int)) = true := decide_eq_true (by omega)
              have f1' : decide (k < cn) = true := decide_eq_true hkn
              have i0 : (0 : Int) ≤ (k : Int) := by omega
              have i1 : (k : Int) < (cn : Int) := by omega
              have k1 : IntKind.i64.wrap ((k : Int) + 1) = (k : Int) + 1 := IntWalk.i64_in _ (by omega)
              obtain ⟨z, hz⟩ : ∃ z, C[k]? = some z := ⟨_, List.getElem?_eq_getElem (by rw [HH.out.2.2.1]; exact hkn)⟩
              obtain ⟨b, o, a', c', rfl, hcell, hints⟩ := HCW.out.at hz
              have hcall := HST.out z (List.mem_of_getElem? hz) a' c' hints
              rw [HCL.out.1.2.1 (by trivial) z (List.mem_of_getElem? hz)] at hcall
              obtain ⟨l, hl⟩ : ∃ l, z.length = l := ⟨_, rfl⟩
              rw [hl] at hcell hcall
              have HCALL := Lib.hid hcall
              clear hz hints hcall hl
              go_wp2_with fail
              refine HCALL.out.mono ?_
              rintro e wx ⟨rfl, hwx⟩
              rw [hwx]
              clear hwx wx HCALL hcell
              go_wp2_with fail
              go_roundg (cn - (k + 1))
              case measure => rw [HI.out]; omega
              case rel => exact ⟨k + 1, rfl, rfl, by omega, rfl⟩
            · have hke : k = cn := by omega
              subst hke
              have f1 : decide (k < k) = false := by simp
              go_wp2_with fail
              go_ret
              exact ⟨rfl, World.grownBy.trans HG1.out (World.grownBy.trans HG5.out HO8.out.2)⟩
        · obtain ⟨i, hi, hic, hst⟩ := HCL.out.1.2.2 hk
          subst hi
          have n0 : (0 : Int) ≤ (i : Int) := by omega
          have n1 : (i : Int) < (cn : Int) := hk1.2
          obtain ⟨z, hz⟩ : ∃ z, C[i]? = some z := ⟨_, List.getElem?_eq_getElem hic⟩
          have hzd : C.getD i [] = z := by rw [List.getD_eq_getElem?_getD, hz]; rfl
          rw [hzd] at hst
          obtain ⟨b, o, a', c', rfl, hcell, hints⟩ := HCW.out.at hz
          have hcall := HST.out z (List.mem_of_getElem? hz) a' c' hints
          rw [hst] at hcall
          obtain ⟨l, hl⟩ : ∃ l, z.length = l := ⟨_, rfl⟩
          rw [hl] at hcell hcall
          have HCALL := Lib.hid hcall
          clear hz hints hcall hl hst hzd hic hk
          go_wp2_with fail
          refine HCALL.out.mono ?_
          rintro e wx ⟨rfl, hwx⟩
          rw [hwx]
          clear hwx wx HCALL hcell
          go_wp2_with fail
          go_ret
          exact ⟨rfl, World.grownBy.trans HG1.out (World.grownBy.trans HG5.out HO8.out.2)⟩
end Go.Proofs.Ythkemajekkilmaa
