/- The law on reasons and levels. -/
import Derived.Test.YthkemajekkilmaaGA10
import Derived.Test.YthkemajekkilmaaGA13
import Derived.Test.YthkemajekkilmaaE3
namespace Go.Proofs.Ythkemajekkilmaa
open Go.RowKit
set_option maxHeartbeats 16000000 in
set_option maxRecDepth 100000 in
theorem reasonsLaw_calls (V : Int) (C : List (List Int)) (ca : Option Addr) (cc : Nat) (A : List Int) (aa : Option Addr) (ac : Nat) (w : World) (h : ClsW w ca cc C) (hA : IntsW w aa ac A) :
    Calls Try.prog 7 #[.agg #[.int .i64 V, .slice ca C.length cc], .slice aa A.length ac] w fun e w' => e = .returned (.bool true) ∧ w.grownBy w' none := by
  obtain ⟨cn, hcn⟩ : ∃ n, C.length = n := ⟨_, rfl⟩
  obtain ⟨an, hAn⟩ : ∃ n, A.length = n := ⟨_, rfl⟩
  obtain ⟨W1, hW1⟩ : ∃ z, w.alloc (.cells #[.int .i64 V, .slice ca cn cc] 24) = z := ⟨_, rfl⟩
  obtain ⟨q0, q1, hg1⟩ := box_at w _ _ hW1
  obtain ⟨bf, hbf⟩ : ∃ z, w.heap.size = z := ⟨_, rfl⟩
  rw [hbf] at q0 q1
  have HC := Lib.hid (And.intro (h.grown hg1) hcn)
  have HA := Lib.hid (And.intro (hA.grown hg1) hAn)
  have HG1 := Lib.hid hg1
  have HQ := Lib.hid (And.intro q0 q1)
  rw [hcn, hAn]
  clear h hcn hg1 q0 q1 hA hAn
  go_enter Try.func7, Try.ntmps7
  go_wp2_with fail
  clear hW1
  refine (head_calls _).mono ?_
  rintro e w2 ⟨rfl, hg2⟩
  have q0 := hg2.cell HQ.out.1 (by simp)
  have q1 := hg2.cell HQ.out.2 (by simp)
  have G2 := Lib.hid hg2
  clear hg2
  have HS := small_calls V C ca cc w2 (HC.out.1.grown G2.out)
  rw [HC.out.2] at HS
  replace HS := Lib.hid HS
  go_wp2_with fail
  refine HS.out.mono ?_
  rintro e w3 ⟨rfl, hg⟩
  replace q0 := hg.cell q0 (by simp)
  replace q1 := hg.cell q1 (by simp)
  have G3 := Lib.hid (World.grownBy.trans G2.out hg)
  clear hg HS
  obtain ⟨sb, hsb⟩ : ∃ z, smallB V C = z := ⟨_, rfl⟩
  rw [hsb]
  cases sb
  case false =>
    go_wp2_with fail
    go_ret
    exact ⟨rfl, World.grownBy.trans HG1.out G3.out⟩
  obtain ⟨v, rfl, hv, hC40, hC12, hR⟩ := small_true hsb
  have HSM := Lib.hid (And.intro hC40 (And.intro hC12 hR))
  have hcn40 : cn ≤ 40 := by rw [← HC.out.2]; exact hC40
  clear hC40 hC12 hR hsb
  have HF := fits_calls (v : Int) ca cn cc A aa ac w3 (HA.out.1.grown G3.out) (by omega)
  rw [HA.out.2] at HF
  replace HF := Lib.hid HF
  go_wp2_with fail
  refine HF.out.mono ?_
  rintro e w4 ⟨rfl, hg⟩
  replace q0 := hg.cell q0 (by simp)
  replace q1 := hg.cell q1 (by simp)
  have G4 := Lib.hid (World.grownBy.trans G3.out hg)
  clear hg HF
  obtain ⟨fb, hfb⟩ : ∃ z, fitsB (v : Int) A = z := ⟨_, rfl⟩
  rw [hfb]
  cases fb
  case false =>
    go_wp2_with fail
    go_ret
    exact ⟨rfl, World.grownBy.trans HG1.out G4.out⟩
  have FA := Lib.hid (fits_true hfb)
  have an12 : an ≤ 12 := by rw [← HA.out.2]; exact FA.out.1
  clear hfb
  have HP := propagate_calls v C ca cc A aa ac w4 (HC.out.1.grown G4.out) (by omega) (by have := HSM.out.1; omega) (fun c hc => by have := HSM.out.2.1 c hc; omega) HSM.out.2.2 (HA.out.1.grown G4.out) (by have := FA.out.1; omega) FA.out.2
  rw [HC.out.2, HA.out.2] at HP
  replace HP := Lib.hid HP
  go_wp2_with fail
  refine HP.out.mono ?_
  rintro e w5 ⟨la, lc, rfl, hl, hg⟩
  replace q0 := hg.cell q0 (by simp)
  replace q1 := hg.cell q1 (by simp)
  have G5 := Lib.hid (World.grownBy.trans G4.out hg)
  have Hl := Lib.hid hl
  clear hg HP hl
  obtain ⟨ln, hln⟩ : ∃ z, (impP v C A).length = z := ⟨_, rfl⟩
  obtain ⟨kf, hkf⟩ : ∃ z, cfP v C A = z := ⟨_, rfl⟩
  rw [hln, hkf]
  have HLN := Lib.hid (And.intro hln hkf)
  have hlv : ln ≤ v := by rw [← hln]; exact imp_le HSM.out.2.2 A
  have HRN : Hid ((reasP v C A).length = ln) := Lib.hid (by unfold reasP; rw [List.length_zip, ← imp_len HSM.out.2.2 A, Nat.min_self, hln])
  have HVN : Hid ((levP v C A).length = ln) := Lib.hid (by rw [lev_len HSM.out.2.2 A, hln])
  clear hln hkf
  have HP := reasons_calls v C ca cc A aa ac w5 (HC.out.1.grown G5.out) (by omega) (by have := HSM.out.1; omega) (fun c hc => by have := HSM.out.2.1 c hc; omega) HSM.out.2.2 (HA.out.1.grown G5.out) (by have := FA.out.1; omega) FA.out.2 (by rw [HLN.out.1]; omega)
  rw [HC.out.2, HA.out.2, HRN.out] at HP
  replace HP := Lib.hid HP
  go_wp2_with fail
  refine HP.out.mono ?_
  rintro e w6 ⟨ra, rc, rfl, hr, hg⟩
  replace q0 := hg.cell q0 (by simp)
  replace q1 := hg.cell q1 (by simp)
  have G6 := Lib.hid (World.grownBy.trans G5.out hg)
  have Hr := Lib.hid hr
  have H56 := Lib.hid hg
  clear hg HP hr
  have HP := levels_calls v C ca cc A aa ac w6 (HC.out.1.grown G6.out) (by omega) (by have := HSM.out.1; omega) (fun c hc => by have := HSM.out.2.1 c hc; omega) HSM.out.2.2 (HA.out.1.grown G6.out) (by have := FA.out.1; omega) FA.out.2
  rw [HC.out.2, HA.out.2, HVN.out] at HP
  replace HP := Lib.hid HP
  go_wp2_with fail
  refine HP.out.mono ?_
  rintro e w7 ⟨va, vc, rfl, hv2, hg⟩
  replace q0 := hg.cell q0 (by simp)
  replace q1 := hg.cell q1 (by simp)
  have G7 := Lib.hid (World.grownBy.trans G6.out hg)
  have Hv := Lib.hid hv2
  have H67 := Lib.hid hg
  clear hg HP hv2
  have HQC := Lib.hid (And.intro q0 q1)
  have HRC := Lib.hid (And.intro ((Hl.out.grown H56.out).grown H67.out) (And.intro (own_grown Hr.out H67.out) Hv.out))
  have hown0 := own_empty w7
  have hg5 := World.grownBy_alloc w7 (.cells #[] 3) none
  obtain ⟨WA, hWA⟩ : ∃ z, w7.alloc (.cells #[] 3) = z := ⟨_, rfl⟩
  obtain ⟨B, hB⟩ : ∃ z, w7.heap.size = z := ⟨_, rfl⟩
  rw [hWA] at hown0 hg5
  rw [hB] at hown0
  have HO := Lib.hid (And.intro hown0 (And.intro hg5 hB))
  clear hown0 hg5
  go_wp2_with (at_builtin; refine wpList_appI rfl _ _ rfl B (some ⟨B, 0, none⟩) 0 0 [] A aa ac an rfl rfl HO.out.1 (HA.out.1.grown (World.grownBy.trans G7.out HO.out.2.1)) HA.out.2 (by omega) (by rw [← HO.out.2.2]; exact HO.out.2.1.size) A rfl an (Nat.zero_add _) ?_)
  intro ta tc WT hownT hgT
  have hgT2 := grown_own HO.out.2.1 hgT (fun r e => by cases e; rw [HO.out.2.2]; exact Nat.le_refl _)
  obtain ⟨WO, hWO⟩ : ∃ z, WT.alloc (.cells #[] 25) = z := ⟨_, rfl⟩
  obtain ⟨bo, hbo⟩ : ∃ z, WT.heap.size = z := ⟨_, rfl⟩
  have hgO : WT.grownBy WO none := by rw [← hWO]; exact World.grownBy_alloc WT _ none
  have hBbo : B ≤ bo := by rw [← hbo, ← HO.out.2.2]; exact hgT2.size
  have honl : WO.ownsRow bo 25 1 (.slice (some ⟨bo, 0, none⟩) 0 0) 0 [] := by
    rw [← hWO, ← hbo]
    exact World.ownsRow_lit WT #[] 0 (Nat.le_refl _) (by unfold maxLen; omega) rfl
  have htb : ∀ b, (Value.slice ta an tc).ownBlock = some b → b < bo := fun b hb => by
    rw [← hbo]
    rcases hownT.2 with ⟨e, _⟩ | ⟨g, cap, cur, e, _, hc, _⟩
    · rw [e] at hb; cases hb
    · rw [e] at hb; cases hb; exact (Array.getElem?_eq_some_iff.1 hc).1
  have HTB := Lib.hid (And.intro htb (And.intro hBbo (show bo ≤ WO.heap.size from by rw [← hbo]; exact hgO.size)))
  have HTW := Lib.hid (And.intro hgT2 (And.intro hgO (And.intro hownT hbo)))
  have HT0 := Lib.hid (And.intro (own_grown hownT hgO) (And.intro (World.grownBy.trans hgT2 hgO) (show OCn bo WO (some ⟨bo, 0, none⟩) 0 0 [] (Value.slice ta an tc).ownBlock from ⟨rfl, [], honl, fun i z hz => by simp at hz⟩)))
  clear hownT hgT hgT2 hgO honl htb hBbo hWA hB
  go_wp2_with fail
  clear hWO hbo q0 q1
  obtain ⟨i1, hi1, hy0, hy1, hy2⟩ := info_parts info25
  obtain ⟨i0, hi0, hz0, hz1, hz2⟩ := info_parts info3
  go_loopg [11, 12] an (fun gk s11 s12 wr => ∃ (k : Nat) (oa : Option Addr) (oc : Nat), s11 = .slice oa k oc ∧ s12 = .int .i64 (k : Int) ∧ gk = an - k ∧ k ≤ an ∧ WT.grownBy wr none ∧ OCn bo wr oa oc k ((A.take k).map fun a => [a]) (Value.slice ta an tc).ownBlock)
  case atStart => exact ⟨0, some ⟨bo, 0, none⟩, 0, rfl, rfl, rfl, Nat.zero_le _, HTW.out.2.1, HT0.out.2.2⟩
  case round =>
    obtain ⟨k, oa, oc, rfl, rfl, hgk, hk, hg, hoc⟩ := hrel
    have HI := Lib.hid (And.intro hgk (And.intro hg hoc))
    clear hgk hg hoc
    by_cases hkn : k < an
    · have f1 : decide ((k : Int) < (an : Int)) = true := decide_eq_true (by omega)
      have f1' : decide (k < an) = true := decide_eq_true hkn
      have j0 : (0 : Int) ≤ (k : Int) := by omega
      have j1 : (k : Int) < (an : Int) := by omega
      have k1 : IntKind.i64.wrap ((k : Int) + 1) = (k : Int) + 1 := IntWalk.i64_in _ (by omega)
      obtain ⟨x, hx⟩ : ∃ x, A[k]? = some x := ⟨_, List.getElem?_eq_getElem (by rw [HA.out.2]; exact hkn)⟩
      obtain ⟨b, o, e1, c1⟩ := (HA.out.1.grown (World.grownBy.trans G7.out (World.grownBy.trans HTW.out.1 HI.out.2.1))).at hx
      subst e1
      have HX := Lib.hid hx
      obtain ⟨Wx, hWx⟩ : ∃ z, wr.alloc (.cells #[.int .i64 x] 3) = z := ⟨_, rfl⟩
      obtain ⟨bx, hbx⟩ : ∃ z, wr.heap.size = z := ⟨_, rfl⟩
      have hgx : wr.grownBy Wx none := by rw [← hWx]; exact World.grownBy_alloc wr _ none
      have hbo : bo ≤ bx := by rw [← hbx]; rw [← HTW.out.2.2.2]; exact HI.out.2.1.size
      have hox : Wx.ownsRow bo 3 1 (.slice (some ⟨bx, 0, none⟩) 1 1) 1 (intCells [x]) := by
        rw [← hWx, ← hbx]
        exact World.ownsRow_lit wr #[.int .i64 x] 1 (by rw [hbx]; exact hbo) (by unfold maxLen; omega) rfl
      have hocx := HI.out.2.2.grown hgx
      obtain ⟨hlen, vs, hvs, hvz⟩ := hocx
      have HV := Lib.hid (And.intro hlen (And.intro hvs (And.intro hvz (And.intro hox hgx))))
      have hszx : bo ≤ Wx.heap.size := by have h1 := hgx.size; omega
      have HBX := Lib.hid hbo
      clear hx hgx hox hlen hvs hvz hbo
      go_wp2_with (at_builtin; refine wpList_append_own_at _ rfl _ _ 22 rfl bo 25 i1 (.slice none 0 0) 1 24 Try.underlying22 hi1 hy0 hy1 hy2 rfl (by decide) _ k vs rfl (HV.out.2.1.alloc _) ⟨Wx.heap.size, 0, none⟩ 1 1 [.slice (some ⟨bx, 0, none⟩) 1 1] rfl rfl (cell_one_new _ _ _) (fun u hu => by simp at hu; subst hu; rfl) (by unfold maxLen; omega) (by omega) (by simp; omega) ?_)
      intro v9 w9 hown9 hgrow9 _ _
      obtain ⟨sa, sc, rfl⟩ := own_shape hown9
      have hg9 : Wx.grownBy w9 (Value.slice oa k oc).ownBlock := (World.grownBy_alloc Wx _ _).trans hgrow9
      have HP9 := Lib.hid (OCn.push HV.out.1 (z := [x]) HV.out.2.2.2.1 (tb := (Value.slice ta an tc).ownBlock) (fun b' hb' e => by
        cases hb'
        have h1 : bx < bo := HTB.out.1 bx e
        have h2 := HBX.out
        omega) HV.out.2.1 HV.out.2.2.1 hown9 hg9)
      have HG9 := Lib.hid (grown_own (World.grownBy.trans HI.out.2.1 HV.out.2.2.2.2) hg9 (fun r e => by rw [HTW.out.2.2.2]; exact own_low HV.out.2.1 r e))
      clear hown9 hgrow9 hg9 hWx hbx c1
      go_wp2_with fail
      go_roundg (an - (k + 1))
      case measure => rw [HI.out.1]; omega
      case rel => exact ⟨k + 1, sa, sc, rfl, rfl, rfl, by omega, HG9.out, by rw [take_snoc HX.out, List.map_append]; exact HP9.out⟩
    · have hke : k = an := by omega
      subst hke
      have f1 : decide (k < k) = false := by simp
      have hoc := HI.out.2.2
      rw [List.take_of_length_le (by rw [HA.out.2]; exact Nat.le_refl _)] at hoc
      have hoc2 : OCn bo wr oa oc (k + 0) (onL v C A 0) (Value.slice ta (k + 0) tc).ownBlock := by
        unfold onL
        simpa using hoc
      have HS0 := Lib.hid (And.intro (World.grownBy.trans HTW.out.1 HI.out.2.1) (And.intro (show wr.ownsRow B 3 1 (.slice ta (k + 0) tc) (k + 0) (intCells (A ++ (impP v C A).take 0)) from by rw [List.take_zero, List.append_nil]; exact own_grown HTW.out.2.2.1 HI.out.2.1) (And.intro hoc2 (And.intro (show bo ≤ wr.heap.size from by rw [← HTW.out.2.2.2]; exact HI.out.2.1.size) HO.out.2.2))))
      have heq := eq34
      clear hoc hoc2
      go_wp2_with fail
      go_loopg [10, 11, 13, 14, 15, 16, 17, 18, 19, 20, 21, 22, 23, 24] ln (fun gk s10 s11 s13 _s14 _s15 _s16 _s17 _s18 _s19 _s20 _s21 _s22 _s23 _s24 wr => ∃ (q : Nat) (ta : Option Addr) (tc : Nat) (oa : Option Addr) (oc : Nat), s10 = .slice ta (k + q) tc ∧ s11 = .slice oa (k + q) oc ∧ s13 = .int .i64 (q : Int) ∧ gk = ln - q ∧ q ≤ ln ∧ w7.grownBy wr none ∧ bo ≤ wr.heap.size ∧ wr.ownsRow B 3 1 (.slice ta (k + q) tc) (k + q) (intCells (A ++ (impP v C A).take q)) ∧ OCn bo wr oa oc (k + q) (onL v C A q) (Value.slice ta (k + q) tc).ownBlock)
      case atStart => exact ⟨0, ta, tc, oa, oc, rfl, rfl, rfl, rfl, Nat.zero_le _, HS0.out.1, HS0.out.2.2.2.1, HS0.out.2.1, HS0.out.2.2.1⟩
      case round =>
        obtain ⟨q, ta, tc, oa, oc, rfl, rfl, rfl, hgk, hq, hg, hbw, hot, hoc⟩ := hrel
        obtain ⟨tn, htn⟩ : ∃ n, k + q = n := ⟨_, rfl⟩
        obtain ⟨T, hT⟩ : ∃ T, A ++ (impP v C A).take q = T := ⟨_, rfl⟩
        rw [htn, hT] at hot
        rw [htn] at hoc ⊢
        have hTl : T.length = tn := (own_ints hot).1
        have htn20 : tn ≤ 20 := by omega
        have HTT := Lib.hid (And.intro hT (And.intro hTl htn))
        by_cases hql : q < ln
        · have g1 : decide ((q : Int) < (ln : Int)) = true := decide_eq_true (by omega)
          have g1' : decide (q < ln) = true := decide_eq_true hql
          have l0 : (0 : Int) ≤ (q : Int) := by omega
          have l1 : (q : Int) < (ln : Int) := by omega
          have l2 : IntKind.i64.wrap ((q : Int) + 1) = (q : Int) + 1 := IntWalk.i64_in _ (by omega)
          have hcb : contraP A = false := by
            cases hcb : contraP A with
            | false => rfl
            | true =>
              have h1 := HLN.out.1
              rw [show impP v C A = [] from by unfold impP; rw [propP_contra hcb]; rfl] at h1
              simp at h1
              omega
          obtain ⟨x, hx⟩ : ∃ x, (impP v C A)[q]? = some x := ⟨_, List.getElem?_eq_getElem (by rw [HLN.out.1]; exact hql)⟩
          obtain ⟨r, hr⟩ : ∃ r, (propP v C A).2.2.1[q]? = some r := ⟨_, List.getElem?_eq_getElem (by rw [← imp_len HSM.out.2.2 A, HLN.out.1]; exact hql)⟩
          obtain ⟨i, hri, hic, hxz, hon, hneg, hsub, hfin⟩ := law7 HSM.out.2.2 hcb hx hr
          subst hri
          have hrp : (reasP v C A)[q]? = some (x, (i : Int)) := by unfold reasP; rw [List.getElem?_zip_eq_some]; exact ⟨hx, hr⟩
          obtain ⟨z, hz⟩ : ∃ z, C[i]? = some z := ⟨_, List.getElem?_eq_getElem hic⟩
          rw [getD_of hz] at hxz hon hneg
          obtain ⟨M, hM⟩ : ∃ M, onP v C A ((uq A).length + q) = M := ⟨_, rfl⟩
          have hlev := lev_at HSM.out.2.2 A (j := q) (by rw [HLN.out.1]; exact hql)
          rw [hM] at hon hsub hfin hlev
          rw [hT] at hneg
          obtain ⟨D, hD⟩ : ∃ D, (depF v C A).take ((uq A).length + q) = D := ⟨_, rfl⟩
          rw [hD] at hon
          have hOnT : ∀ (p : Nat) (u : Int), T[p]? = some u → (onL v C A q)[p]? = some (setAt D u) := fun p u hp => by rw [← hD]; exact onL_at HSM.out.2.2 hcb (by rw [HLN.out.1]; exact hq) (by rw [hT]; exact hp)
          have hDA : ∀ (u : Int) (y : Int), y ∈ setAt D u → y ∈ A := fun u y hy => by
            refine setAt_sub (D := D) (fun pp hpp => ?_) u y hy
            rw [← hD] at hpp
            obtain ⟨j, hj⟩ := List.mem_iff_getElem?.1 hpp
            rw [List.getElem?_take] at hj
            split at hj
            · exact on_sub HSM.out.2.2 hcb j pp hj
            · cases hj
          have HMD := Lib.hid hM
          have HSHORT := Lib.hid (onL_short HSM.out.2.2 hcb (n := q) FA.out.1 (by omega))
          have HK := Lib.hid (And.intro hgk (And.intro hg (And.intro hbw (And.intro hot hoc))))
          have HL7 := Lib.hid (And.intro hx (And.intro hxz (And.intro hon (And.intro hneg (And.intro hsub (And.intro hfin (And.intro hz (And.intro hOnT hDA))))))))
          obtain ⟨b1, o1, e1, c1⟩ := (HRC.out.1.grown hg).at hx
          obtain ⟨b2, e2, c2, c2'⟩ := prC_at (own_grown HRC.out.2.1 hg) hrp hql
          obtain ⟨b3, o3, e3, c3⟩ := (HRC.out.2.2.grown hg).at hlev
          obtain ⟨bz, oz, az, cz, e4, c4, hzi⟩ := (HC.out.1.grown (World.grownBy.trans G7.out hg)).at hz
          subst e1 e2 e3 e4
          dsimp only at c2 c2'
          obtain ⟨zl, hzl⟩ : ∃ l, z.length = l := ⟨_, rfl⟩
          rw [hzl] at c4
          have hzl12 : zl ≤ 12 := by rw [← hzl]; exact HSM.out.2.1 z (List.mem_of_getElem? hz)
          have q1 := hg.cell HQC.out.2 (by simp)
          have q0 := hg.cell HQC.out.1 (by simp)
          have n0 : (0 : Int) ≤ (i : Int) := by omega
          have n1 : (i : Int) < (cn : Int) := by have := HC.out.2; omega
          have nn0 : decide ((i : Int) < 0) = false := decide_eq_false (by omega)
          have nn1 : decide ((cn : Int) ≤ (i : Int)) = false := decide_eq_false (by omega)
          have hcall := has_calls z az cz x wr hzi (by omega)
          rw [decide_eq_true hxz, hzl] at hcall
          have HZ := Lib.hid (And.intro hzi hzl)
          have HCALL := Lib.hid (fun (W : World) (hW : wr.grownBy W none) => (show Calls Try.prog 31 #[.slice az zl cz, .int .i64 x] W fun e w' => e = .returned (.bool true) ∧ w' = W from by
            have h1 := has_calls z az cz x W (HZ.out.1.grown hW) (by rw [HZ.out.2]; omega)
            rw [decide_eq_true HL7.out.2.1, HZ.out.2] at h1
            exact h1))
          clear hgk hg hbw hot hoc hx hr hic hxz hon hneg hsub hfin hrp hz hM hlev hD hOnT hDA hzi hzl hcall hcb hT hTl htn
          go_wp2_with fail
          go_quiet (fail)
          go_wp2_with fail
          go_quiet (fail)
          generalize hws1 : World.drewN wr _ = wd
          generalize hws : World.drewN wd _ = ws
          have hgw : wr.grownBy ws none := by rw [← hws, ← hws1]; exact World.grownBy.trans (grown_drewN _ _ _) (grown_drewN _ _ _)
          have HGW := Lib.hid hgw
          have HWS := Lib.hid (And.intro (World.grownBy.trans HK.out.2.1 hgw) (And.intro (hgw.cell q0 (by simp)) (And.intro (hgw.cell q1 (by simp)) (And.intro (hgw.cell c1 (by simp)) (hgw.cell c3 (by simp))))))
          have HTW2 := Lib.hid (And.intro (own_grown HK.out.2.2.2.1 hgw) (And.intro (HK.out.2.2.2.2.grown hgw) (And.intro (HZ.out.1.grown hgw) (Nat.le_trans HK.out.2.2.1 hgw.size))))
          replace c1 := hgw.cell c1 (by simp)
          clear hws hws1 hgw q0 q1 c2 c2' c3 c4 nn0 nn1 n0 n1
          go_wp2_with fail
          refine (HCALL.out _ HGW.out).mono ?_
          rintro e wx ⟨rfl, hwx⟩
          rw [hwx]
          clear hwx wx HCALL c1
          go_wp2_with fail
          go_loopg [16, 17, 18, 19, 20, 21] zl (fun gk s16 s17 _s18 _s19 _s20 _s21 wr => ∃ (j : Nat) (ma : Option Addr) (mc ml : Nat) (F : List Int), s16 = .slice ma ml mc ∧ s17 = .int .i64 (j : Int) ∧ gk = zl - j ∧ j ≤ zl ∧ ws.grownBy wr none ∧ F = (((z.take j).filter (fun u => u != x)).flatMap fun u => setAt D (-u)) ∧ (uq F).length = ml ∧ wr.ownsRow ws.heap.size 3 1 (.slice ma ml mc) ml (intCells (uq F)))
          case atStart => exact ⟨0, none, 0, 0, [], rfl, rfl, rfl, Nat.zero_le _, grown_refl _ _, by simp, rfl, ⟨rfl, .inl ⟨rfl, rfl⟩⟩⟩
          case round =>
            obtain ⟨j, ma, mc, ml, F, rfl, rfl, hgk, hj, hg, hF, hml, hown⟩ := hrel
            have hml12 : ml ≤ 12 := by
              rw [← hml]
              refine Nat.le_trans (uq_len_sub (A := A) fun y hy => ?_) FA.out.1
              rw [hF] at hy
              obtain ⟨u, _, hu⟩ := List.mem_flatMap.1 hy
              exact HL7.out.2.2.2.2.2.2.2.2 (-u) y hu
            have HJ := Lib.hid (And.intro hgk (And.intro hg (And.intro hF (And.intro hml hown))))
            have c1 := hg.cell HWS.out.2.2.2.1 (by simp)
            clear hgk hg hF hml hown
            by_cases hjz : j < zl
            · have m1 : decide ((j : Int) < (zl : Int)) = true := decide_eq_true (by omega)
              have m1' : decide (j < zl) = true := decide_eq_true hjz
              have p0 : (0 : Int) ≤ (j : Int) := by omega
              have p1 : (j : Int) < (zl : Int) := by omega
              have p2 : IntKind.i64.wrap ((j : Int) + 1) = (j : Int) + 1 := IntWalk.i64_in _ (by omega)
              obtain ⟨y, hy⟩ : ∃ y, z[j]? = some y := ⟨_, List.getElem?_eq_getElem (by rw [HZ.out.2]; exact hjz)⟩
              obtain ⟨by_, oy, e5, c4⟩ := (HTW2.out.2.2.1.grown HJ.out.2.1).at hy
              subst e5
              have hyR := HSM.out.2.2 z (List.mem_of_getElem? HL7.out.2.2.2.2.2.2.1) y (List.mem_of_getElem? hy)
              have HY := Lib.hid (And.intro hy hyR)
              have HN := Lib.hid (fun (X : List Int) (hX : (if y = x then [] else setAt D (-y)) = X) => (show (((z.take (j + 1)).filter (fun u => u != x)).flatMap fun u => setAt D (-u)) = F ++ X from by
                rw [take_snoc HY.out.1, flat_step, ← HJ.out.2.2.1, hX]))
              clear hy hyR
              by_cases hyx : y = x
              · have d1 : decide (y = x) = true := decide_eq_true hyx
                have d2 : (y == x) = true := by simp [hyx]
                have HN2 := Lib.hid (HN.out [] (by rw [if_pos hyx]))
                clear hyx
                go_wp2_with fail
                go_quiet (fail)
                go_wp2_with fail
                go_roundg (zl - (j + 1))
                case measure => rw [HJ.out.1]; omega
                case rel => exact ⟨j + 1, ma, mc, ml, F, rfl, rfl, rfl, by omega, World.grownBy.trans HJ.out.2.1 (grown_drewN _ _ _), by rw [HN2.out, List.append_nil], HJ.out.2.2.2.1, own_grown HJ.out.2.2.2.2 (grown_drewN _ _ _)⟩
              · have d1 : decide (y = x) = false := decide_eq_false hyx
                have d2 : (y == x) = false := by simpa using hyx
                have hneg := HL7.out.2.2.2.1 y (List.mem_of_getElem? HY.out.1) hyx
                have HNE := Lib.hid (And.intro hneg (HN.out _ (if_neg hyx)))
                clear hneg hyx
                go_wp2_with fail
                go_quiet (fail)
                go_wp2_with fail
                generalize hwy : World.drewN wr _ = wy
                have hgy : wr.grownBy wy none := by rw [← hwy]; exact grown_drewN _ _ _
                have HGY := Lib.hid (World.grownBy.trans HJ.out.2.1 hgy)
                have HY2 := Lib.hid (And.intro (own_grown HJ.out.2.2.2.2 hgy) (own_grown HTW2.out.1 HGY.out))
                replace c4 := hgy.cell c4 (by simp)
                obtain ⟨t, ht⟩ : ∃ t, -y = t := ⟨_, rfl⟩
                have ky : IntKind.i64.wrap (-y) = t := by rw [← ht]; exact IntWalk.i64_in _ (by obtain ⟨_, a1, a2⟩ := HY.out.2; omega)
                have HYT := Lib.hid ht
                rw [ht] at HNE
                clear hwy hgy c1 ht
                go_loopg [18, 19] tn (fun gk s18 s19 w' => ∃ p : Nat, s18 = .int .i64 (fnd (T.take p) t) ∧ s19 = .int .i64 (p : Int) ∧ gk = tn - p ∧ p ≤ tn ∧ ∃ d, w' = wy.drewN d)
                case atStart => exact ⟨0, by rw [List.take_zero]; rfl, rfl, rfl, Nat.zero_le _, 0, rfl⟩
                case round =>
                  obtain ⟨p, rfl, rfl, hgk, hp, d, rfl⟩ := hrel
                  have HP := Lib.hid hgk
                  clear hgk
                  by_cases hpt : p < tn
                  · have b1' : decide ((p : Int) < (tn : Int)) = true := decide_eq_true (by omega)
                    have b1'' : decide (p < tn) = true := decide_eq_true hpt
                    have s0 : (0 : Int) ≤ (p : Int) := by omega
                    have s1 : (p : Int) < (tn : Int) := by omega
                    have s2 : IntKind.i64.wrap ((p : Int) + 1) = (p : Int) + 1 := IntWalk.i64_in _ (by omega)
                    obtain ⟨u, hu⟩ : ∃ u, T[p]? = some u := ⟨_, List.getElem?_eq_getElem (by rw [HTT.out.2.1]; exact hpt)⟩
                    obtain ⟨bu, ou, e6, cu⟩ := (own_ints HY2.out.2).2.at hu
                    subst e6
                    have hst := fnd_step hu t
                    obtain ⟨a, ha⟩ : ∃ a, fnd (T.take p) t = a := ⟨_, rfl⟩
                    rw [ha] at hst ⊢
                    have hac : a = -1 ∨ 0 ≤ a := by
                      rw [← ha]
                      rcases fnd_cases (T.take p) t with ⟨h1, _⟩ | ⟨i', h1, _⟩
                      · exact .inl h1
                      · exact .inr (by omega)
                    have HST := Lib.hid (And.intro hst hac)
                    clear hu hst ha hac
                    by_cases hut : u = t
                    · have x1 : decide (u = t) = true := decide_eq_true hut
                      have x2 : (u == t) = true := by simp [hut]
                      by_cases ha0 : a < 0
                      · have x3 : decide (a < 0) = true := decide_eq_true ha0
                        have HN3 := Lib.hid (show fnd (T.take (p + 1)) t = (p : Int) from by rw [HST.out.1, if_pos ha0, if_pos hut])
                        clear hut ha0
                        go_wp2_with fail
                        go_quiet (fail)
                        go_wp2_with fail
                        go_roundg (tn - (p + 1))
                        case measure => rw [HP.out]; omega
                        case rel => exact ⟨p + 1, by rw [HN3.out], rfl, rfl, by omega, _, rfl⟩
                      · have x3 : decide (a < 0) = false := decide_eq_false ha0
                        have HN3 := Lib.hid (show fnd (T.take (p + 1)) t = a from by rw [HST.out.1, if_neg ha0])
                        clear hut ha0
                        go_wp2_with fail
                        go_quiet (fail)
                        go_wp2_with fail
                        go_roundg (tn - (p + 1))
                        case measure => rw [HP.out]; omega
                        case rel => exact ⟨p + 1, by rw [HN3.out], rfl, rfl, by omega, _, rfl⟩
                    · have x1 : decide (u = t) = false := decide_eq_false hut
                      have x2 : (u == t) = false := by simpa using hut
                      have HN3 := Lib.hid (show fnd (T.take (p + 1)) t = a from by
                        rw [HST.out.1, if_neg hut]
                        split
                        · rename_i ha0
                          rcases HST.out.2 with h1 | h1
                          · exact h1.symm
                          · omega
                        · rfl)
                      clear hut
                      go_wp2_with fail
                      go_quiet (fail)
                      go_wp2_with fail
                      go_roundg (tn - (p + 1))
                      case measure => rw [HP.out]; omega
                      case rel => exact ⟨p + 1, by rw [HN3.out], rfl, rfl, by omega, _, rfl⟩
                  · have hpe : p = tn := by omega
                    subst hpe
                    have b1' : decide (p < p) = false := by simp
                    rcases fnd_cases T t with ⟨_, h2⟩ | ⟨at', h1, h2⟩
                    · exact absurd HNE.out.1 h2
                    rw [List.take_of_length_le (by rw [HTT.out.2.1]; exact Nat.le_refl _), h1]
                    have x3 : decide ((at' : Int) < 0) = false := decide_eq_false (by omega)
                    have x3' : ((at' : Int) < 0) = False := by simp
                    have hat : at' < p := by rw [← HTT.out.2.1]; exact (List.getElem?_eq_some_iff.1 h2).1
                    have u0 : (0 : Int) ≤ (at' : Int) := by omega
                    have u1 : (at' : Int) < (p : Int) := by omega
                    have honl := HL7.out.2.2.2.2.2.2.2.1 at' t h2
                    obtain ⟨l, hl⟩ : ∃ l, setAt D t = l := ⟨_, rfl⟩
                    rw [hl] at honl HNE
                    obtain ⟨sl, hsl⟩ : ∃ n, l.length = n := ⟨_, rfl⟩
                    have hsl12 : sl ≤ 12 := by rw [← hsl]; exact HSHORT.out l (List.mem_of_getElem? honl)
                    obtain ⟨g, pa, pc, e7, cg, hli⟩ := HTW2.out.2.1.at honl
                    subst e7
                    rw [hsl] at cg
                    have HLI := Lib.hid (And.intro hli (And.intro cg (And.intro hsl hl)))
                    obtain ⟨wz, hwz⟩ : ∃ z, wy.drewN d = z := ⟨_, rfl⟩
                    have hgz : wy.grownBy wz none := by rw [← hwz]; exact grown_drewN _ _ _
                    rw [hwz]
                    have HGZ := Lib.hid (And.intro (World.grownBy.trans HGY.out hgz) (own_grown HY2.out.1 hgz))
                    clear h1 h2 honl hli cg hsl hl hwz hgz c4 ky
                    go_wp2_with fail
                    go_loopg [16, 20, 21] sl (fun gk s16 s20 _s21 wr => ∃ (r ml : Nat) (ma : Option Addr) (mc : Nat), s16 = .slice ma ml mc ∧ s20 = .int .i64 (r : Int) ∧ gk = sl - r ∧ r ≤ sl ∧ ws.grownBy wr none ∧ (uq (F ++ l.take r)).length = ml ∧ wr.ownsRow ws.heap.size 3 1 (.slice ma ml mc) ml (intCells (uq (F ++ l.take r))))
                    case atStart => exact ⟨0, ml, ma, mc, rfl, rfl, rfl, Nat.zero_le _, HGZ.out.1, by rw [List.take_zero, List.append_nil]; exact HJ.out.2.2.2.1, by rw [List.take_zero, List.append_nil]; exact HGZ.out.2⟩
                    case round =>
                      obtain ⟨r, ml, ma, mc, rfl, rfl, hgk, hr, hgo, hml, hown⟩ := hrel
                      have hml12 : ml ≤ 12 := by
                        rw [← hml]
                        refine Nat.le_trans (uq_len_sub (A := A) fun y hy => ?_) FA.out.1
                        rcases List.mem_append.1 hy with hy | hy
                        · rw [HJ.out.2.2.1] at hy
                          obtain ⟨u, _, hu⟩ := List.mem_flatMap.1 hy
                          exact HL7.out.2.2.2.2.2.2.2.2 (-u) y hu
                        · exact HL7.out.2.2.2.2.2.2.2.2 t y (by rw [HLI.out.2.2.2]; exact List.mem_of_mem_take hy)
                      have HM := Lib.hid (And.intro hgk (And.intro hgo (And.intro hml hown)))
                      have cg := hgo.cell HLI.out.2.1 (by simp)
                      clear hgk hgo hml hown
                      by_cases hrs : r < sl
                      · have v1 : decide ((r : Int) < (sl : Int)) = true := decide_eq_true (by omega)
                        have v1' : decide (r < sl) = true := decide_eq_true hrs
                        have v2 : (0 : Int) ≤ (r : Int) := by omega
                        have v3 : (r : Int) < (sl : Int) := by omega
                        have v4 : IntKind.i64.wrap ((r : Int) + 1) = (r : Int) + 1 := IntWalk.i64_in _ (by omega)
                        obtain ⟨u, hu⟩ : ∃ u, l[r]? = some u := ⟨_, List.getElem?_eq_getElem (by rw [HLI.out.2.2.1]; exact hrs)⟩
                        obtain ⟨bu, ou, e8, cu⟩ := (HLI.out.1.grown HM.out.2.1).at hu
                        subst e8
                        obtain ⟨G, hG⟩ : ∃ G, uq (F ++ l.take r) = G := ⟨_, rfl⟩
                        have hG2 : uq (F ++ l.take (r + 1)) = if u ∈ G then G else G ++ [u] := by rw [take_snoc hu, ← List.append_assoc, uq_snoc, hG]
                        rw [hG] at HM
                        have hcall := has_calls G ma mc u wr (own_ints HM.out.2.2.2).2 (by rw [HM.out.2.2.1]; omega)
                        rw [HM.out.2.2.1] at hcall
                        obtain ⟨dd, hd⟩ : ∃ dd, decide (u ∈ G) = dd := ⟨_, rfl⟩
                        rw [hd] at hcall
                        have HCALL := Lib.hid hcall
                        have HU := Lib.hid (And.intro hd hG2)
                        have hsz : ws.heap.size ≤ wr.heap.size := HM.out.2.1.size
                        clear hu hG hG2 hcall hd
                        go_wp2_with fail
                        refine HCALL.out.mono ?_
                        rintro e wq ⟨rfl, hwq⟩
                        rw [hwq]
                        clear hwq wq HCALL
                        cases dd
                        case true =>
                          go_wp2_with fail
                          go_roundg (sl - (r + 1))
                          case measure => rw [HM.out.1]; omega
                          case rel => exact ⟨r + 1, ml, ma, mc, rfl, rfl, rfl, by omega, HM.out.2.1, by rw [HU.out.2, if_pos (of_decide_eq_true HU.out.1)]; exact HM.out.2.2.1, by rw [HU.out.2, if_pos (of_decide_eq_true HU.out.1)]; exact HM.out.2.2.2⟩
                        case false =>
                          go_wp2_with (at_builtin; refine wpList_append_own_at _ rfl _ _ 25 rfl ws.heap.size 3 i0 (.int .i64 0) 1 8 Try.underlying25 hi0 hz0 hz1 hz2 rfl (by decide) _ ml (intCells G) rfl (HM.out.2.2.2.alloc _) ⟨wr.heap.size, 0, none⟩ 1 1 [.int .i64 u] rfl rfl (cell_one_new _ _ _) (fun u hu => by simp at hu; subst hu; rfl) (by unfold maxLen; omega) (by omega) (by simp; omega) ?_)
                          intro v9 w9 hown9 hgrow9 _ hat9
                          obtain ⟨sa, sc, rfl⟩ := own_shape hown9
                          have HM9 := Lib.hid (And.intro (grown_own HM.out.2.1 ((World.grownBy_alloc wr _ _).trans hgrow9) (own_low HM.out.2.2.2)) hown9)
                          clear hown9 hgrow9 hat9 cu cg
                          go_wp2_with fail
                          go_roundg (sl - (r + 1))
                          case measure => rw [HM.out.1]; omega
                          case rel =>
                            refine ⟨r + 1, ml + 1, sa, sc, rfl, rfl, rfl, by omega, HM9.out.1, ?_, ?_⟩
                            · rw [HU.out.2, if_neg (of_decide_eq_false HU.out.1), List.length_append, HM.out.2.2.1]; rfl
                            · rw [HU.out.2, if_neg (of_decide_eq_false HU.out.1), intCells, List.map_append]; exact HM9.out.2
                      · have v1 : decide ((r : Int) < (sl : Int)) = false := decide_eq_false (by omega)
                        have v1' : decide (r < sl) = false := decide_eq_false hrs
                        have HQE := Lib.hid (show l.take r = l from by rw [show r = sl from by omega, ← HLI.out.2.2.1, List.take_length])
                        go_wp2_with fail
                        go_roundg (zl - (j + 1))
                        case measure => rw [HJ.out.1]; omega
                        case rel =>
                          refine ⟨j + 1, ma, mc, ml, F ++ l, rfl, rfl, rfl, by omega, HM.out.2.1, by rw [HNE.out.2], ?_, ?_⟩
                          · have h1 := HM.out.2.2.1; rwa [HQE.out] at h1
                          · have h1 := HM.out.2.2.2; rwa [HQE.out] at h1
            · have hje : j = zl := by omega
              subst hje
              have m1 : decide (j < j) = false := by simp
              have hfin : M = uq F := by
                rw [HL7.out.2.2.1]
                unfold restOn
                rw [HJ.out.2.2.1, List.take_of_length_le (by rw [HZ.out.2]; exact Nat.le_refl _)]
              have hmlM : M.length = ml := by rw [hfin]; exact HJ.out.2.2.2.1
              have hmr : ∀ u ∈ M, InR v u := fun u hu => FA.out.2 u (HL7.out.2.2.2.2.1 u hu)
              have hmo : wr.ownsRow ws.heap.size 3 1 (.slice ma ml mc) ml (intCells M) := by rw [hfin]; exact HJ.out.2.2.2.2
              have q0 := HJ.out.2.1.cell HWS.out.2.1 (by simp)
              have q1 := HJ.out.2.1.cell HWS.out.2.2.1 (by simp)
              have hpc := propagate_calls v C (some ⟨bz, oz, none⟩) cc M ma mc wr (HC.out.1.grown (World.grownBy.trans G7.out (World.grownBy.trans HWS.out.1 HJ.out.2.1))) (by omega) (by have := HSM.out.1; omega) (fun c hc => by have := HSM.out.2.1 c hc; omega) HSM.out.2.2 (own_ints hmo).2 (by omega) hmr
              rw [HC.out.2, hmlM] at hpc
              have HPC := Lib.hid hpc
              have HMM := Lib.hid (And.intro hmlM (And.intro hmo HJ.out.2.1))
              clear hfin hmlM hmr hmo hpc
              go_wp2_with fail
              refine HPC.out.mono ?_
              rintro e wp ⟨ga, gc, rfl, hgi, hgp⟩
              obtain ⟨cf, hcf⟩ : ∃ c, cfP v C M = c := ⟨_, rfl⟩
              obtain ⟨gn, hgn⟩ : ∃ n, (impP v C M).length = n := ⟨_, rfl⟩
              have hgv : gn ≤ v := by rw [← hgn]; exact imp_le HSM.out.2.2 M
              have hhc := has_calls (impP v C M) ga gc x wp hgi (by omega)
              obtain ⟨fd, hfd⟩ : ∃ d, decide (x ∈ impP v C M) = d := ⟨_, rfl⟩
              rw [hgn, hfd] at hhc
              rw [hgn, hcf]
              have HHC := Lib.hid hhc
              have hfdt : cf = -1 → fd = true := fun e => by rw [← hfd]; exact decide_eq_true (HL7.out.2.2.2.2.2.1 (by rw [hcf]; exact e))
              have HFD := Lib.hid hfdt
              have hgsp := World.grownBy.trans HJ.out.2.1 hgp
              have c1 := hgsp.cell HWS.out.2.2.2.1 (by simp)
              have c3 := hgsp.cell HWS.out.2.2.2.2 (by simp)
              rw [HMM.out.1] at c3
              have HSP := Lib.hid (And.intro hgsp (own_grown HMM.out.2.1 hgp))
              clear hgi hgp hhc hfd hfdt hcf hgn hgsp q0 q1
              go_wp2_with fail
              refine HHC.out.mono ?_
              rintro e wx ⟨rfl, hwx⟩
              rw [hwx]
              clear hwx wx HHC
              have hkey : ∃ d : Bool, (cf == -1) = d ∧ decide (cf = -1) = d ∧ (d = true → fd = true) := by
                by_cases h : cf = -1
                · exact ⟨true, by simp [h], decide_eq_true h, fun _ => HFD.out h⟩
                · exact ⟨false, by simpa using h, decide_eq_false h, fun e => by cases e⟩
              obtain ⟨d, hd1, hd2, hd3⟩ := hkey
              have hot2 := own_grown HTW2.out.1 HSP.out.1
              have hszB : B ≤ wp.heap.size := by rw [← HO.out.2.2]; exact (World.grownBy.trans HWS.out.1 HSP.out.1).size
              have hocp := HTW2.out.2.1.grown HSP.out.1
              have HOT := Lib.hid (And.intro hot2 hocp)
              have HX1 := Lib.hid HL7.out.1
              clear hot2 hocp
              have hpos : ∀ (Q : Prop), (d = false → Q) → (d = true → fd = true → Q) → Q := fun Q h1 h2 => by
                cases hdd : d with
                | false => exact h1 hdd
                | true => exact h2 hdd (hd3 hdd)
              refine hpos _ (fun hdf => ?_) (fun hdt hft => ?_)
              all_goals
                clear hpos
                first | subst hdf | (subst hdt; subst hft)
                go_wp2_with (at_builtin; refine wpList_append_own_at _ rfl _ _ 25 rfl B 3 i0 (.int .i64 0) 1 8 Try.underlying25 hi0 hz0 hz1 hz2 rfl (by decide) _ tn (intCells T) rfl (HOT.out.1.alloc _) ⟨wp.heap.size, 0, none⟩ 1 1 [.int .i64 x] rfl rfl (cell_one_new _ _ _) (fun u hu => by simp at hu; subst hu; rfl) (by unfold maxLen; omega) (by omega) (by simp; omega) ?_)
                intro v9 w9 hown9 hgrow9 _ hat9
                obtain ⟨ya, yc, rfl⟩ := own_shape hown9
                have hg9 : wp.grownBy w9 (Value.slice ta tn tc).ownBlock := (World.grownBy_alloc wp _ _).trans hgrow9
                have hoc9 := HOT.out.2.trail (tv' := .slice ya (tn + 1) yc) HOT.out.1 hg9 (hat9.imp id (fun h => ⟨_, h, by simp⟩))
                have htlt : ∀ b, (Value.slice ta tn tc).ownBlock = some b → b < ws.heap.size := fun b hb => by
                  rcases HTW2.out.1.2 with ⟨e, _⟩ | ⟨g, cap, cur, e, _, hc, _⟩
                  · rw [e] at hb; cases hb
                  · rw [e] at hb; cases hb; exact (Array.getElem?_eq_some_iff.1 hc).1
                have hm9 : w9.ownsRow ws.heap.size 3 1 (.slice ma ml mc) ml (intCells M) := HSP.out.2.kept hg9 (by
                  cases hv : (Value.slice ma ml mc).ownBlock with
                  | none => exact .inl rfl
                  | some b => exact .inr (fun e => by
                      have h1 := htlt b e.symm
                      have h2 := own_low HSP.out.2 b hv
                      omega))
                have hmb : ∀ b, (Value.slice ma ml mc).ownBlock = some b → (Value.slice ya (tn + 1) yc).ownBlock ≠ some b := fun b hb e => by
                  have h2 := own_low HSP.out.2 b hb
                  rcases hat9 with h1 | h1
                  · rw [h1] at e
                    have h3 := htlt b e
                    omega
                  · rw [h1] at e
                    have h3 : b < wp.heap.size := by
                      rcases HSP.out.2.2 with ⟨e2, _⟩ | ⟨g, cap, cur, e2, _, hc, _⟩
                      · rw [e2] at hb; cases hb
                      · rw [e2] at hb; cases hb; exact (Array.getElem?_eq_some_iff.1 hc).1
                    injection e with e
                    omega
                obtain ⟨hlen, vs, hvs, hvz⟩ := hoc9
                have hgw9 := grown_own (World.grownBy.trans HWS.out.1 HSP.out.1) hg9 (fun r e => by rw [HO.out.2.2]; exact own_low HOT.out.1 r e)
                have hbo9 : bo ≤ w9.heap.size := by
                  have h1 := HTW2.out.2.2.2
                  have h2 := HSP.out.1.size
                  have h3 := hg9.size
                  omega
                have HV9 := Lib.hid (And.intro hlen (And.intro hvs (And.intro hvz (And.intro hown9 (And.intro hm9 (And.intro hmb hgw9))))))
                have htn20' : tn ≤ 20 := htn20
                clear hown9 hgrow9 hat9 hg9 htlt hm9 hmb hlen hvs hvz hgw9 c1 c3 hd1 hd2 hd3
                go_wp2_with (at_builtin; refine wpList_append_own_at _ rfl _ _ 22 rfl bo 25 i1 (.slice none 0 0) 1 24 Try.underlying22 hi1 hy0 hy1 hy2 rfl (by decide) _ tn vs rfl (HV9.out.2.1.alloc _) ⟨w9.heap.size, 0, none⟩ 1 1 [.slice ma ml mc] rfl rfl (cell_one_new _ _ _) (fun u hu => by simp at hu; subst hu; rfl) (by unfold maxLen; omega) (by omega) (by simp; omega) ?_)
                intro v8 w8 hown8 hgrow8 _ _
                obtain ⟨na, nc, rfl⟩ := own_shape hown8
                have hg8 : w9.grownBy w8 (Value.slice oa tn oc).ownBlock := (World.grownBy_alloc w9 _ _).trans hgrow8
                have hoc8 := OCn.push (z := M) (a' := ma) (c' := mc) HV9.out.1 (by rw [HMM.out.1]; exact own_lower HV9.out.2.2.2.2.1 HTW2.out.2.2.2) (by rw [HMM.out.1]; exact HV9.out.2.2.2.2.2.1) HV9.out.2.1 HV9.out.2.2.1 (by rw [HMM.out.1]; exact hown8) hg8
                have hot8 := HV9.out.2.2.2.1.kept hg8 (own_kinds HV9.out.2.2.2.1 HV9.out.2.1 (by decide))
                have hgw8 := grown_own HV9.out.2.2.2.2.2.2 hg8 (fun r e => by have h1 := own_low HV9.out.2.1 r e; have h2 := HTB.out.2.1; have h3 := HO.out.2.2; omega)
                have H8 := Lib.hid (And.intro hoc8 (And.intro hot8 (And.intro hgw8 (Nat.le_trans hbo9 hg8.size))))
                clear hown8 hgrow8 hg8 hoc8 hot8 hgw8
                go_wp2_with fail
                go_roundg (ln - (q + 1))
                case measure => rw [HK.out.1]; omega
                case rel =>
                  have hkq : k + (q + 1) = tn + 1 := by have := HTT.out.2.2; omega
                  refine ⟨q + 1, ya, yc, na, nc, by rw [hkq], by rw [hkq], rfl, rfl, by omega, H8.out.2.2.1, H8.out.2.2.2, ?_, ?_⟩
                  · rw [hkq, take_snoc HX1.out, ← List.append_assoc, HTT.out.1, intCells, List.map_append]
                    exact H8.out.2.1
                  · rw [hkq, onL_succ, HMD.out]
                    exact H8.out.1
        · have hqe : q = ln := by omega
          subst hqe
          have g1 : decide (q < q) = false := by simp
          have HEND := Lib.hid hg
          go_wp2_with fail
          go_ret
          exact ⟨rfl, World.grownBy.trans HG1.out (World.grownBy.trans G7.out HEND.out)⟩
end Go.Proofs.Ythkemajekkilmaa
