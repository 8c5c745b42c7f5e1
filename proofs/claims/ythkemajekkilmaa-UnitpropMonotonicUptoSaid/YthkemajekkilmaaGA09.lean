/- Stage 20, joined: L1, V5, K00, K0, K1, Z4, T5. -/
import Derived.Test.YthkemajekkilmaaGA08
import Derived.BigQuiet
import Derived.Test.YthkemajekkilmaaGA06
import Derived.Test.YthkemajekkilmaaGA07
import Derived.ChangeKeysEq
/- Levels. -/
namespace Go.Proofs.Ythkemajekkilmaa
open Go.RowKit Go.Maps
set_option maxHeartbeats 16000000 in
set_option maxRecDepth 100000 in
theorem levels_calls (V : Nat) (C : List (List Int)) (ca : Option Addr) (cc : Nat) (A : List Int) (aa : Option Addr) (ac : Nat) (w : World) (h : ClsW w ca cc C) (hV : V ≤ 40) (hC : C.length ≤ 1000) (hL : ∀ c ∈ C, c.length ≤ 100) (hR : Ran V C)
    (hA : IntsW w aa ac A) (hAl : A.length ≤ 100) (hAr : ∀ x ∈ A, InR V x) :
    Calls Try.prog 18 #[.agg #[.int .i64 (V : Int), .slice ca C.length cc], .slice aa A.length ac] w fun e w' => ∃ a c, e = .returned (.slice a (levP V C A).length c) ∧ IntsW w' a c (levP V C A) ∧ w.grownBy w' none := by
  obtain ⟨cn, hcn⟩ : ∃ n, C.length = n := ⟨_, rfl⟩
  obtain ⟨an, han⟩ : ∃ n, A.length = n := ⟨_, rfl⟩
  obtain ⟨W1, hW1⟩ : ∃ z, w.alloc (.cells #[.int .i64 (V : Int), .slice ca cn cc] 24) = z := ⟨_, rfl⟩
  obtain ⟨q0, q1, hg1⟩ := box_at w _ _ hW1
  obtain ⟨bf, hbf⟩ : ∃ z, w.heap.size = z := ⟨_, rfl⟩
  rw [hbf] at q0 q1
  have HP := Lib.hid (propagated_calls V C ca cc A aa ac W1 (h.grown hg1) hV hC hL hR (hA.grown hg1) (by omega) hAr)
  have HG := Lib.hid hg1
  have HC := Lib.hid (And.intro (h.grown hg1) (And.intro hL (And.intro hcn (And.intro hC hR))))
  rw [hcn, han] at HP
  rw [hcn, han]
  have HN := Lib.hid (And.intro (propP_len V C A) (And.intro (imp_len hR A) (And.intro (imp_le hR A) (And.intro (lev_facts hR (A := A)) (And.intro (fun h => lev_kf hR (A := A) h) (And.intro han hAr))))))
  obtain ⟨LV, hLV⟩ : ∃ z, levP V C A = z := ⟨_, rfl⟩
  rw [hLV]
  have HRP := Lib.hid hLV
  have HB := Lib.hid hbf
  obtain ⟨i0, hi0, hz0, hz1, hz2⟩ := info_parts info3
  clear h hC hL hR hA hAr hg1 hcn hLV
  go_enter Try.func18, Try.ntmps18
  go_wp2_with fail
  refine HP.out.mono ?_
  rintro e w2 ⟨p, rfl, hpr, hg2⟩
  clear HP q0 q1 hW1
  obtain ⟨a, c, f2, hrow⟩ := hpr.f2
  obtain ⟨a4, c4, f4, hrow4⟩ := hpr.f4
  have f3 := hpr.f3
  have f1 := hpr.f1
  have HT : Hid (IntsW w2 (if c = (propP V C A).2.1 then a else a.map (fun x => x.add (propP V C A).2.1)) (c - (propP V C A).2.1) (impP V C A)) := Lib.hid (irow_tail hrow _ HN.out.1)
  obtain ⟨n, hnn⟩ : ∃ n, (propP V C A).1.length = n := ⟨_, rfl⟩
  obtain ⟨ns, hns⟩ : ∃ n, (propP V C A).2.1 = n := ⟨_, rfl⟩
  obtain ⟨rs, hrs⟩ : ∃ n, (propP V C A).2.2.1 = n := ⟨_, rfl⟩
  obtain ⟨tr, htr⟩ : ∃ n, (propP V C A).1 = n := ⟨_, rfl⟩
  obtain ⟨im, him⟩ : ∃ n, impP V C A = n := ⟨_, rfl⟩
  obtain ⟨RP, hRP⟩ : ∃ n, reasP V C A = n := ⟨_, rfl⟩
  obtain ⟨kf, hkf⟩ : ∃ n, (propP V C A).2.2.2 = n := ⟨_, rfl⟩
  have hRP2 : RP = im.zip rs := by rw [← hRP, ← him, ← hrs]; rfl
  have him2 : im.length = n - ns := by rw [← him, ← hnn, ← hns]; unfold impP; rw [List.length_drop]
  rw [htr] at hnn hrow HN
  rw [hrs] at f4 hrow4 HN
  rw [hns] at f3 HN HT
  rw [him] at HN HT
  rw [hRP] at HN
  rw [hkf] at f1 HN
  rw [show (propP V C A).1.length = n from by rw [htr]; exact hnn] at f2
  have HLE := HN.out.1
  have hle := irow_le hrow
  rw [hnn] at hle HLE
  obtain ⟨m, hm⟩ : ∃ z, n - ns = z := ⟨_, rfl⟩
  have hml : im.length = m := by rw [him2, hm]
  have hrl : rs.length = m := by rw [← HN.out.2.1, hml]
  have hmV : m ≤ 40 := by have := HN.out.2.2.1; omega
  obtain ⟨T, hT⟩ : ∃ T, tr.take ns = T := ⟨_, rfl⟩
  have hTl : T.length = ns := by rw [← hT, List.length_take, hnn]; omega
  rw [hT] at HN
  have hTA : ns ≤ 100 := by have := HN.out.2.2.2.1.2.2.2.1; omega
  have HI := Lib.hid (fun (W : World) (hW : w2.grownBy W none) => implied_calls (w := W) (hW.cell f2 (by simp)) (hW.cell f3 (by simp)) HLE hle)
  have HTR : Hid (∀ k x, T[k]? = some x → ∀ W, w2.grownBy W none → ∃ b o, a = some ⟨b, o, none⟩ ∧ W.cell? ⟨b, o + k, none⟩ = some (.int .i64 x)) := Lib.hid (fun k x hx W hW => by
    have hk : k < tr.length := by
      have := (List.getElem?_eq_some_iff.1 hx).1
      rw [← hT, List.length_take] at this
      omega
    have hx2 : tr[k]? = some x := by rw [← hT, List.getElem?_take] at hx; split at hx; exact hx; cases hx
    obtain ⟨b, o, h1, h2⟩ := (irow_ints (hrow.more hW)).at hx2
    exact ⟨b, o, h1, h2⟩)
  have HG2 := Lib.hid (And.intro (World.grownBy.trans HG.out hg2) hpr.low)
  have HTL := Lib.hid hTl
  have HE := Lib.hid (And.intro hml (And.intro hrl (And.intro hRP2 (And.intro HN.out.2.2.2.1 HN.out.2.2.2.2))))
  obtain ⟨v, hv⟩ : ∃ v, (if c = ns then a else a.map (fun x => x.add ns)) = v := ⟨_, rfl⟩
  rw [hv] at HI HT
  have HX4 := Lib.hid (And.intro (irow_ints hrow4) (And.intro f4 (And.intro f1 hg2)))
  rw [hm] at HI
  rw [hrl] at f4
  clear hv hrow hrow4 hpr hg2 hnn hns hrs him hRP hkf htr him2 hRP2 HN hm hml hrl hTl hT
  have i0' : (0 : Int) ≤ (ns : Int) := by omega
  have i1 : (ns : Int) ≤ (n : Int) := by omega
  have i2 : (n : Int) ≤ (c : Int) := by omega
  have i3 : (ns : Int) ≤ (c : Int) := by omega
  have hmm := @run_makeMap Try.prog
  obtain ⟨bm, hbm⟩ : ∃ z, w2.heap.size = z := ⟨_, rfl⟩
  obtain ⟨W3, hW3⟩ : ∃ z, w2.alloc (.map #[] 0) = z := ⟨_, rfl⟩
  have hd3 := Deps.new w2
  have hg3 := World.grownBy_alloc w2 (.map #[] 0) none
  rw [hW3] at hg3 hd3
  rw [hbm] at hd3
  have H3 := Lib.hid (And.intro hd3 (And.intro hg3 hbm))
  have c2 := hg3.cell f2 (by simp)
  have c3 := hg3.cell f3 (by simp)
  clear hg3 hd3 f2 f3 f4 f1
  go_wp2_with fail
  clear hW3 hbm
  go_quiet (fail)
  go_wp2_with fail
  clear c2 c3
  go_loopg [8, 29] ns (fun gk _s8 s29 wr => ∃ (k : Nat) (D' : List (Int × Nat)), s29 = .int .i64 (k : Int) ∧ gk = ns - k ∧ k ≤ ns ∧ w2.grownBy wr none ∧ Deps wr bm ((T.take k).map fun a => (a, [a])) D')
  case atStart => exact ⟨0, [], rfl, rfl, by omega, World.grownBy.trans H3.out.2.1 (grown_drewN _ _ _), by rw [List.take_zero]; exact H3.out.1.grown (grown_drewN _ _ none) (by simp)⟩
  case round =>
    obtain ⟨k, D', rfl, hgk, hk, hg, hD⟩ := hrel
    have HJ := Lib.hid (And.intro hgk (And.intro hg hD))
    clear hgk hg hD
    by_cases hkn : k < ns
    · have f1 : decide ((k : Int) < (ns : Int)) = true := decide_eq_true (by omega)
      have f1' : decide (k < ns) = true := decide_eq_true hkn
      have j0 : (0 : Int) ≤ (k : Int) := by omega
      have j1 : (k : Int) < (ns : Int) := by omega
      have k1 : IntKind.i64.wrap ((k : Int) + 1) = (k : Int) + 1 := IntWalk.i64_in _ (by omega)
      have hTl : T.length = ns := HTL.out
      obtain ⟨x, hx⟩ : ∃ x, T[k]? = some x := ⟨_, List.getElem?_eq_getElem (by rw [hTl]; exact hkn)⟩
      obtain ⟨b, o, hb0, hcell⟩ := HTR.out k x hx wr HJ.out.2.1
      subst hb0
      have HX : Hid ((T.take (k + 1)).map (fun a => (a, [a])) = (T.take k).map (fun a => (a, [a])) ++ [(x, [x])]) := Lib.hid (by rw [take_snoc hx, List.map_append]; rfl)
      have HWF : Hid ((Lit.int .i64 x).wf = true) := Lib.hid (by
        obtain ⟨_, a1, a2⟩ := HE.out.2.2.2.2.2.2 x (HE.out.2.2.2.1.2.1 x (List.mem_of_getElem? hx))
        exact wf64 (by omega) (by omega))
      have hsz : bm < wr.heap.size := HJ.out.2.2.1.lt
      have HS := Lib.hid (And.intro hsz hTl)
      obtain ⟨br, hbr⟩ : ∃ z, wr.heap.size = z := ⟨_, rfl⟩
      obtain ⟨Wa, hWa⟩ : ∃ z, wr.alloc (.map #[] 0) = z := ⟨_, rfl⟩
      have hsa := SetM.new wr
      have hga := World.grownBy_alloc wr (.map #[] 0) none
      rw [hWa] at hga hsa
      rw [hbr] at hsa
      have HA := Lib.hid (And.intro hsa (And.intro hga hbr))
      clear hsa hga hx hsz hTl
      go_wp2_with (refine wpList_insM rfl _ _ rfl br [] rfl HA.out.1 (by decide) x rfl HWF.out ?_)
      intro w5 hs5 hg5
      have hg25 : wr.grownBy w5 none := grown_past HA.out.2.1 hg5 (by rw [HA.out.2.2]; exact Nat.le_refl _)
      have hd5 := HJ.out.2.2.grown hg25 (by simp)
      have H5 := Lib.hid (And.intro hs5 (And.intro hg25 hd5))
      clear hs5 hg5 hg25 hd5 hWa hbr hcell
      go_wp2_with (refine wpList_mapB rfl _ _ _ rfl bm D' rfl H5.out.2.2.1 (by have := HJ.out.2.2.2.1; rw [List.length_map, List.length_take] at this; omega) x rfl br rfl HWF.out ?_)
      intro w6 hm6 hg6
      have HN := Lib.hid (And.intro (grown_past (World.grownBy.trans HJ.out.2.1 H5.out.2.1) hg6 (by rw [H3.out.2.2]; exact Nat.le_refl _)) (H5.out.2.2.store H5.out.1 (fun _ => Iff.rfl) (by have := HS.out.1; have := HA.out.2.2; omega) hm6 hg6))
      clear hm6 hg6
      go_wp2_with fail
      go_roundg (ns - (k + 1))
      case measure => rw [HJ.out.1]; omega
      case rel => exact ⟨k + 1, _, rfl, rfl, by omega, HN.out.1, by rw [HX.out]; exact HN.out.2⟩
    · have hke : k = ns := by omega
      subst hke
      have f1 : decide (k < k) = false := by simp
      have hD := HJ.out.2.2
      rw [← HTL.out, List.take_length] at hD
      have HD := Lib.hid (And.intro HJ.out.2.1 hD)
      clear HJ hD HTL hkn hk
      go_wp2_with fail
      refine (HI.out wr HD.out.1).mono ?_
      rintro e w7 ⟨rfl, ⟨dr, rfl⟩⟩
      clear HI
      go_wp2_with fail
      obtain ⟨out0, hout0⟩ : ∃ o, o = ([] : List Int) := ⟨_, rfl⟩
      go_loopg [9, 10, 11, 12, 14, 42] m (fun gk s9 _s10 _s11 _s12 _s14 s42 wr => ∃ (q : Nat) (ra : Option Addr) (rc : Nat) (D : List (Int × List Int)) (D' : List (Int × Nat)) (out : List Int), s9 = .slice ra q rc ∧ s42 = .int .i64 (q : Int) ∧ gk = m - q ∧ q ≤ m ∧ w2.grownBy wr none ∧ Deps wr bm D D' ∧ D.map Prod.fst = T ++ im.take q ∧ (∀ p ∈ D, ∀ z ∈ p.2, z ∈ A) ∧ LV = out ++ levsGo C (RP.drop q) D ∧ out.length = q ∧ wr.ownsRow w2.heap.size 3 1 (.slice ra q rc) q (intCells out))
      case atStart =>
        refine ⟨0, none, 0, _, D', [], rfl, rfl, rfl, by omega, World.grownBy.trans HD.out.1 (grown_drewN _ _ _), HD.out.2.grown (grown_drewN _ _ none) (by simp), by rw [List.map_map, List.take_zero, List.append_nil]; simp [Function.comp_def], fun p hp z hz => ?_, by rw [List.nil_append, List.drop_zero, ← HRP.out, ← HE.out.2.2.2.1.1], rfl, ⟨rfl, .inl ⟨rfl, rfl⟩⟩⟩
        obtain ⟨b, hb, rfl⟩ := List.mem_map.1 hp
        rw [List.mem_singleton.1 hz]
        exact HE.out.2.2.2.1.2.1 b hb
      case round =>
        obtain ⟨q, ra, rc, D, D2, out, rfl, rfl, hgk, hq, hg, hD, hkeys, hsub, hlv, hol, hown⟩ := hrel
        have HJ := Lib.hid (And.intro hgk (And.intro hg (And.intro hD (And.intro hkeys (And.intro hsub (And.intro hlv (And.intro hol hown)))))))
        clear hgk hg hD hkeys hsub hlv hol hown
        by_cases hqm : q < m
        · have f1 : decide ((q : Int) < (m : Int)) = true := decide_eq_true (by omega)
          have f1' : decide (q < m) = true := decide_eq_true hqm
          have j0 : (0 : Int) ≤ (q : Int) := by omega
          have j1 : (q : Int) < (m : Int) := by omega
          have k1 : IntKind.i64.wrap ((q : Int) + 1) = (q : Int) + 1 := IntWalk.i64_in _ (by omega)
          obtain ⟨x, hx⟩ : ∃ x, im[q]? = some x := ⟨_, List.getElem?_eq_getElem (by rw [HE.out.1]; exact hqm)⟩
          obtain ⟨r, hr⟩ : ∃ r, rs[q]? = some r := ⟨_, List.getElem?_eq_getElem (by rw [HE.out.2.1]; exact hqm)⟩
          obtain ⟨i, hri, hiC, hrest⟩ := HE.out.2.2.2.1.2.2.2.2 q x r hx hr
          subst hri
          obtain ⟨z, hz⟩ : ∃ z, C[i]? = some z := ⟨_, List.getElem?_eq_getElem hiC⟩
          have hzd : C.getD i [] = z := by rw [List.getD_eq_getElem?_getD, hz]; rfl
          rw [hzd] at hrest
          obtain ⟨bs, hbs⟩ : ∃ z, wr.heap.size = z := ⟨_, rfl⟩
          obtain ⟨Wa, hWa⟩ : ∃ z, wr.alloc (.map #[] 0) = z := ⟨_, rfl⟩
          have hsa := SetM.new wr
          have hga := World.grownBy_alloc wr (.map #[] 0) none
          rw [hWa] at hga hsa
          rw [hbs] at hsa
          have hg2a := World.grownBy.trans HJ.out.2.1 hga
          obtain ⟨b4, o4, hb4, hcell4⟩ := (HX4.out.1.grown hg2a).at hr
          obtain ⟨b3, o3, hb3, hcell3⟩ := (HT.out.grown HJ.out.2.1).at hx
          obtain ⟨bz, oz, az, cz, hbz, hcellz, hintz⟩ := (HC.out.1.grown (World.grownBy.trans HX4.out.2.2.2 HJ.out.2.1)).at hz
          replace hcellz := hga.cell hcellz (by simp)
          subst hb4 hb3 hbz
          have c1 := hg2a.cell (HX4.out.2.2.1 (HE.out.2.2.2.2.1 (by rw [HE.out.1]; omega))) (by simp)
          have c4 := hg2a.cell HX4.out.2.1 (by simp)
          rw [HE.out.2.1] at c4
          have hiC' : i < cn := by rw [← HC.out.2.2.1]; exact hiC
          have n0 : (0 : Int) ≤ (i : Int) := by omega
          have n1 : (i : Int) < (cn : Int) := by omega
          have hxr := HE.out.2.2.2.1.2.2.1 x (List.mem_of_getElem? hx)
          have HXF := Lib.hid (And.intro hx (And.intro hrest (And.intro (HC.out.2.1 z (List.mem_of_getElem? hz)) (And.intro hzd hxr))))
          have hrp : RP[q]? = some (x, (i : Int)) := by rw [HE.out.2.2.1, List.getElem?_zip_eq_some]; exact ⟨hx, hr⟩
          have HRQ := Lib.hid hrp
          have HZC := Lib.hid hz
          have HA := Lib.hid (And.intro hsa (And.intro hga (And.intro hbs hintz)))
          obtain ⟨zl, hzl⟩ : ∃ l, z.length = l := ⟨_, rfl⟩
          rw [hzl] at hcellz
          have HZL := Lib.hid hzl
          clear hsa hga hx hr hrest hz hzd hiC hiC' hg2a hintz hxr hrp hzl
          go_wp2_with fail
          clear hWa hbs
          go_quiet (fail)
          go_wp2_with fail
          clear c1 c4 hcellz hcell3 hcell4
          go_loopg [14, 63] zl (fun gk _s14 s63 wr2 => ∃ (j : Nat) (S : List Int), s63 = .int .i64 (j : Int) ∧ gk = zl - j ∧ j ≤ zl ∧ Wa.grownBy wr2 (some bs) ∧ SetM wr2 bs S ∧ (∀ t, t ∈ S ↔ ∃ y ∈ z.take j, y ≠ x ∧ t ∈ setAt D (-y)) ∧ S.length ≤ j * 100)
          case atStart => exact ⟨0, [], rfl, rfl, by omega, grown_drewN _ _ _, HA.out.1.grown (grown_drewN _ _ none) (by simp), fun t => by simp, by simp⟩
          case round =>
            obtain ⟨j, S, rfl, hgk, hj, hg, hS, hmem, hSl⟩ := hrel
            have HK := Lib.hid (And.intro hgk (And.intro hg (And.intro hS (And.intro hmem hSl))))
            clear hgk hg hS hmem hSl
            have hz100 : zl ≤ 100 := by have h1 := HXF.out.2.2.1; rw [HZL.out] at h1; exact h1
            by_cases hjz : j < zl
            · have g1 : decide ((j : Int) < (zl : Int)) = true := decide_eq_true (by omega)
              have g1' : decide (j < zl) = true := decide_eq_true hjz
              have l0 : (0 : Int) ≤ (j : Int) := by omega
              have l1 : (j : Int) < (zl : Int) := by omega
              have l2 : IntKind.i64.wrap ((j : Int) + 1) = (j : Int) + 1 := IntWalk.i64_in _ (by omega)
              obtain ⟨y, hy⟩ : ∃ y, z[j]? = some y := ⟨_, List.getElem?_eq_getElem (by rw [HZL.out]; exact hjz)⟩
              have hints : IntsW wr az cz z := HA.out.2.2.2.grown (grown_past HA.out.2.1 HK.out.2.1 (by rw [HA.out.2.2.1]; exact Nat.le_refl _))
              obtain ⟨by_, oy, hby, hcelly⟩ := hints.at hy
              subst hby
              have HY := Lib.hid hy
              clear hy hints
              have hyR : InR V y := HC.out.2.2.2.2 z (List.mem_of_getElem? HZC.out) y (List.mem_of_getElem? HY.out)
              have HYR := Lib.hid hyR
              have l3 : IntKind.i64.wrap (-y) = -y := IntWalk.i64_in _ (by obtain ⟨_, a1, a2⟩ := hyR; omega)
              clear hyR
              by_cases hyx : y = x
              · have e1 : decide (y = x) = true := decide_eq_true hyx
                have e2 : (y != x) = false := by simp [hyx]
                have HYX := Lib.hid hyx
                clear hyx
                go_wp2_with fail
                go_roundg (zl - (j + 1))
                case measure => rw [HK.out.1]; omega
                case rel => exact ⟨j + 1, S, rfl, rfl, by omega, HK.out.2.1, HK.out.2.2.1, fun t => by rw [HK.out.2.2.2.1 t, take_snoc HY.out]; exact mem_step_eq HYX.out _ _, by have := HK.out.2.2.2.2; omega⟩
              · have e1 : decide (y = x) = false := decide_eq_false hyx
                have e2 : (y != x) = true := by simpa using hyx
                have HYX := Lib.hid hyx
                clear hyx
                have hgo := grown_past HA.out.2.1 HK.out.2.1 (by rw [HA.out.2.2.1]; exact Nat.le_refl _)
                have hdw := HJ.out.2.2.1.grown hgo (by simp)
                have hkey : -y ∈ D.map Prod.fst := by rw [HJ.out.2.2.2.1]; exact HXF.out.2.1 y (List.mem_of_getElem? HY.out) HYX.out
                obtain ⟨b2, hl2, hb2, S2, hS2, hm2⟩ := HJ.out.2.2.1.2.2 (-y) hkey
                have hwf : (Lit.int .i64 (-y)).wf = true := by obtain ⟨_, a1, a2⟩ := HYR.out; exact wf64 (by omega) (by omega)
                have hlk := hdw.1.look hwf hl2
                have hsz2 : Maps.size (setD S2) ≤ 100 := by
                  rw [size_setD]
                  exact Nat.le_trans (uq_len_sub (A := A) (fun t ht => setAt_sub HJ.out.2.2.2.2.1 (-y) t ((hm2 t).1 ht))) hAl
                have HCP := Lib.hid (copy_calls S S2 bs b2 wr HK.out.2.2.1 (hS2.grown hgo (by simp)) (by have := hS2.lt; have := HA.out.2.2.1; omega) (by have := HK.out.2.2.2.2; omega))
                have HM2 := Lib.hid (And.intro hm2 hsz2)
                clear hgo hdw hkey hl2 hb2 hS2 hm2 hwf hsz2
                go_wp2_with fail
                refine HCP.out.mono ?_
                rintro e w8 ⟨rfl, ⟨S', hS', hm', hl'⟩, hg8⟩
                have H8 := Lib.hid (And.intro hS' (And.intro hm' (And.intro hl' (World.grownBy.trans HK.out.2.1 hg8))))
                clear HCP hS' hm' hl' hg8 hlk hcelly
                go_wp2_with fail
                go_roundg (zl - (j + 1))
                case measure => rw [HK.out.1]; omega
                case rel => exact ⟨j + 1, S', rfl, rfl, by omega, H8.out.2.2.2, H8.out.1, fun t => by rw [H8.out.2.1 t, HK.out.2.2.2.1 t, HM2.out.1 t, take_snoc HY.out]; exact mem_step_ne HYX.out _ _, by have := HK.out.2.2.2.2; have := H8.out.2.2.1; have := HM2.out.2; omega⟩
            · have hje : j = zl := by omega
              subst hje
              have g1 : decide (j < j) = false := by simp
              have hmem := HK.out.2.2.2.1
              rw [← HZL.out, List.take_length] at hmem
              have hmr : ∀ t, t ∈ S ↔ t ∈ restOn D x z := fun t => (hmem t).trans (mem_restOn t).symm
              have hgo := grown_past HA.out.2.1 HK.out.2.1 (by rw [HA.out.2.2.1]; exact Nat.le_refl _)
              have hdw := HJ.out.2.2.1.grown hgo (by simp)
              have hszs : Maps.size (setD S) = (restOn D x z).length := by
                rw [size_setD, uq_len_same hmr]
                exact uq_nodup (nodup_uq _)
              have HF := Lib.hid (And.intro hdw (And.intro (World.grownBy.trans HJ.out.2.1 hgo) (And.intro hmr (And.intro HK.out.2.2.1 (own_grown HJ.out.2.2.2.2.2.2.2 hgo)))))
              have hwf : (Lit.int .i64 x).wf = true := by obtain ⟨_, a1, a2⟩ := HXF.out.2.2.2.2; exact wf64 (by omega) (by omega)
              have HWF := Lib.hid hwf
              have HSZ := Lib.hid (And.intro hszs (show D2.length ≤ 1000 from by
                rw [HJ.out.2.2.1.2.1, ← List.length_map (f := Prod.fst), HJ.out.2.2.2.1, List.length_append, List.length_take]
                have := HE.out.2.2.2.1.2.2.2.1
                have := HE.out.1
                omega))
              have hbsm : bs ≠ bm := by have := HJ.out.2.2.1.1.lt; have := HA.out.2.2.1; omega
              have HBM := Lib.hid hbsm
              clear hmem hmr hgo hdw hszs hwf hbsm HK
              go_wp2_with (refine wpList_mapB rfl _ _ _ rfl bm D2 rfl HF.out.1.1 (by have := HSZ.out.2; omega) x rfl bs rfl HWF.out ?_)
              intro w9 hm9 hg9
              have hd9 := HF.out.1.store HF.out.2.2.2.1 HF.out.2.2.1 HBM.out hm9 hg9
              have hset9 := HF.out.2.2.2.1.grown hg9 (by intro e; injection e with e; exact HBM.out e)
              have H9 := Lib.hid (And.intro hd9 (And.intro (grown_past HF.out.2.1 hg9 (by rw [H3.out.2.2]; exact Nat.le_refl _)) (And.intro hset9 (HF.out.2.2.2.2.kept hg9 (.inr (own_not_map HF.out.2.2.2.2 HF.out.1.1.isMap))))))
              clear hd9 hset9 hm9 hg9
              have hsz9 : w2.heap.size ≤ w9.heap.size := H9.out.2.1.size
              go_wp2_with (first | (at_len; refine wpList_len_own _ rfl _ 60 rfl 3 4 Try.underlying60 (plainElem (H := Unit) Try.prog 4) bs S.length _ rfl H9.out.2.2.1.1 ?_) | (at_builtin; refine wpList_append_own_at _ rfl _ _ 25 rfl w2.heap.size 3 i0 (.int .i64 0) 1 8 Try.underlying25 hi0 hz0 hz1 hz2 rfl (by decide) _ q (intCells out) rfl (H9.out.2.2.2.alloc _) ⟨w9.heap.size, 0, none⟩ 1 1 [.int .i64 (Maps.size (setD S) : Int)] rfl rfl (cell_one_new _ _ _) (fun u hu => by simp at hu; subst hu; rfl) (by unfold maxLen; omega) (by omega) (by simp; omega) ?_))
              intro v' wB hownB hgrowB _ _
              obtain ⟨a', c', rfl⟩ := own_shape hownB
              have hgB : w9.grownBy wB (Value.slice ra q rc).ownBlock := (World.grownBy_alloc w9 _ _).trans hgrowB
              rw [HSZ.out.1] at hownB
              obtain ⟨lv, hlv⟩ : ∃ lv, (restOn D x z).length = lv := ⟨_, rfl⟩
              rw [hlv] at hownB
              have HLV2 := Lib.hid hlv
              have HNB := Lib.hid (And.intro (grown_own H9.out.2.1 hgB (own_low H9.out.2.2.2)) (And.intro hownB (H9.out.1.beside H9.out.2.2.2 hgB)))
              clear hownB hgrowB hgB hlv
              go_wp2_with fail
              go_roundg (m - (q + 1))
              case measure => rw [HJ.out.1]; omega
              case rel =>
                refine ⟨q + 1, a', c', _, _, out ++ [(lv : Int)], rfl, rfl, rfl, by omega, HNB.out.1, HNB.out.2.2, ?_, fun p hp => ?_, ?_, by rw [List.length_append, HJ.out.2.2.2.2.2.2.1]; rfl, by rw [intCells, List.map_append]; exact HNB.out.2.1⟩
                · rw [List.map_append, HJ.out.2.2.2.1, take_snoc HXF.out.1, List.append_assoc]; rfl
                · rcases List.mem_append.1 hp with hp | hp
                  · exact HJ.out.2.2.2.2.1 p hp
                  · rw [List.mem_singleton.1 hp]
                    intro t ht
                    obtain ⟨y, _, _, hy⟩ := (mem_restOn t).1 ht
                    exact setAt_sub HJ.out.2.2.2.2.1 _ t hy
                · rw [HJ.out.2.2.2.2.2.1]
                  exact lev_step HRQ.out HXF.out.2.2.2.1 HLV2.out
        · have hqe : q = m := by omega
          subst hqe
          have f1 : decide (q < q) = false := by simp
          have hlv := HJ.out.2.2.2.2.2.1
          rw [show RP.drop q = [] from by rw [List.drop_eq_nil_iff, HE.out.2.2.1, List.length_zip, HE.out.1, HE.out.2.1]; omega] at hlv
          have HLE2 : Hid (LV = out) := Lib.hid (by rw [hlv]; unfold levsGo; rw [List.append_nil])
          clear hlv
          go_wp2_with fail
          go_ret
          refine ⟨ra, rc, by rw [HLE2.out, HJ.out.2.2.2.2.2.2.1]; rfl, by rw [HLE2.out]; exact irow_ints (B := w2.heap.size) (show IRow w2.heap.size wr ra rc out from by unfold IRow; rw [HJ.out.2.2.2.2.2.2.1]; exact HJ.out.2.2.2.2.2.2.2), World.grownBy.trans HG2.out.1 HJ.out.2.1⟩
end Go.Proofs.Ythkemajekkilmaa
/- Rows of integers compared. -/
namespace Go.Proofs.Ythkemajekkilmaa
open Go.RowKit
theorem drew_twice (w : World) (p q : Nat) : (w.drewN p).drewN q = w.drewN (p + q) := by simp [World.drewN, Nat.add_assoc]
set_option maxHeartbeats 4000000 in
theorem ints_calls (L M : List Int) (a a' : Option Addr) (c c' : Nat) (w : World) (h : IntsW w a c L) (h' : IntsW w a' c' M) (hl : L.length ≤ 100000) (hl' : M.length ≤ 100000) :
    Calls Try.prog 17 #[.slice a L.length c, .slice a' M.length c'] w fun e w' => e = .returned (.bool (decide (L = M))) ∧ ∃ q, w' = w.drewN q := by
  obtain ⟨n, hn⟩ : ∃ n, L.length = n := ⟨_, rfl⟩
  obtain ⟨m, hm⟩ : ∃ m, M.length = m := ⟨_, rfl⟩
  have HH := Lib.hid (And.intro h (And.intro hn (And.intro h' hm)))
  rw [hm] at hl' ⊢
  rw [hn] at hl ⊢
  clear h h' hn hm
  obtain ⟨d, hd⟩ : ∃ d, decide (L = M) = d := ⟨_, rfl⟩
  rw [hd]
  have HD := Lib.hid hd
  clear hd
  by_cases hnm : n = m
  case neg =>
    have e1 : decide (n = m) = false := decide_eq_false hnm
    have e2 : (n != m) = true := by simpa using hnm
    have e3 : decide ((n : Int) = (m : Int)) = false := decide_eq_false (by omega)
    have e4 : ((n : Int) != (m : Int)) = true := by simp; omega
    have HR : Hid (d = false) := Lib.hid (by rw [← HD.out]; refine decide_eq_false (fun e => hnm ?_); rw [← HH.out.2.1, ← HH.out.2.2.2, e])
    clear hnm
    go_enter Try.func17, Try.ntmps17
    go_wp2_with fail
    go_ret
    exact ⟨by rw [HR.out]; rfl, 0, rfl⟩
  case pos =>
  subst hnm
  go_enter Try.func17, Try.ntmps17
  go_wp2_with fail
  go_loopg [5] n (fun gk s5 w' => ∃ k : Nat, s5 = .int .i64 (k : Int) ∧ gk = n - k ∧ k ≤ n ∧ (∃ q, w' = w.drewN q) ∧ L.take k = M.take k)
  case atStart => exact ⟨0, rfl, rfl, by omega, ⟨0, rfl⟩, by simp⟩
  case round =>
    obtain ⟨k, rfl, hgk, hk, ⟨q, rfl⟩, hbef⟩ := hrel
    have HI := Lib.hid (And.intro hgk hbef)
    clear hgk hbef
    by_cases hkn : k < n
    · have f1 : decide ((k : Int) < (n : Int)) = true := decide_eq_true (by omega)
      have f1' : decide (k < n) = true := decide_eq_true hkn
      have i0 : (0 : Int) ≤ (k : Int) := by omega
      have i1 : (k : Int) < (n : Int) := by omega
      have k1 : IntKind.i64.wrap ((k : Int) + 1) = (k : Int) + 1 := IntWalk.i64_in _ (by omega)
      obtain ⟨x, hx⟩ : ∃ x, L[k]? = some x := ⟨_, List.getElem?_eq_getElem (by rw [HH.out.2.1]; exact hkn)⟩
      obtain ⟨y, hy⟩ : ∃ y, M[k]? = some y := ⟨_, List.getElem?_eq_getElem (by rw [HH.out.2.2.2]; exact hkn)⟩
      obtain ⟨b, o, rfl, hcell⟩ := HH.out.1.at hx
      obtain ⟨b', o', rfl, hcell'⟩ := HH.out.2.2.1.at hy
      have HX := Lib.hid (And.intro hx hy)
      clear hx hy
      go_wp2_with fail
      go_quiet (fail)
      clear hcell hcell'
      by_cases hxy : x = y
      · have e1 : decide (x = y) = true := decide_eq_true hxy
        have e2 : (x != y) = false := by simp [hxy]
        have HN : Hid (L.take (k + 1) = M.take (k + 1)) := Lib.hid (by rw [take_snoc HX.out.1, take_snoc HX.out.2, HI.out.2, hxy])
        clear hxy
        go_wp2_with fail
        go_roundg (n - (k + 1))
        case measure => rw [HI.out.1]; omega
        case rel => exact ⟨k + 1, rfl, rfl, by omega, ⟨_, rfl⟩, HN.out⟩
      · have e1 : decide (x = y) = false := decide_eq_false hxy
        have e2 : (x != y) = true := by simpa using hxy
        have HR : Hid (d = false) := Lib.hid (by
          rw [← HD.out]
          refine decide_eq_false (fun e => hxy ?_)
          have h1 := HX.out.1
          rw [e, HX.out.2] at h1
          exact (Option.some.inj h1).symm)
        clear hxy
        go_wp2_with fail
        go_ret
        exact ⟨by rw [HR.out]; rfl, _, drew_twice _ _ _⟩
    · have hke : k = n := by omega
      subst hke
      have f1 : decide (k < k) = false := by simp
      have HR : Hid (d = true) := Lib.hid (by rw [← HD.out]; refine decide_eq_true ?_; have := HI.out.2; rwa [← HH.out.2.1, List.take_length, HH.out.2.1, ← HH.out.2.2.2, List.take_length] at this)
      go_wp2_with fail
      go_ret
      exact ⟨by rw [HR.out]; rfl, _, rfl⟩
end Go.Proofs.Ythkemajekkilmaa
/- Pairs compared. -/
namespace Go.Proofs.Ythkemajekkilmaa
open Go.RowKit
theorem eq34 (a b c d : Int) (w : World) : (Op.equalIn 10000 34 (.agg #[.int .i64 a, .int .i64 b]) (.agg #[.int .i64 c, .int .i64 d])).run Try.prog w = .ok (a == c && b == d) w := by
  obtain ⟨i0, hi0, hz0, hz1, hz2⟩ := info_parts info3
  have hc : Try.prog.cellsOf 3 = 1 := by kernel_rfl
  have hu : Try.prog.underlying 3 = some (.int .i64) := by kernel_rfl
  have hr : List.range 2 = [0, 1] := rfl
  have p0 : ∀ (x y : Int) (w : World), (part 3 #[.int .i64 x, .int .i64 y] 0).run Try.prog w = .ok (.int .i64 x) w := fun x y w => rfl
  have p1 : ∀ (x y : Int) (w : World), (part 3 #[.int .i64 x, .int .i64 y] 1).run Try.prog w = .ok (.int .i64 y) w := fun x y w => rfl
  have h1 : ∀ (x y : Int) (w : World), (Op.equalIn 9999 3 (.int .i64 x) (.int .i64 y)).run Try.prog w = .ok (x == y) w := fun x y w => run_equalIn_int w 9998 3 .i64 .i64 x y hu
  rw [run_equalIn_array w 9999 _ _ Try.underlying34 hi0, hc, hr]
  simp only [Op.eqItems, Nat.zero_mul, Nat.one_mul, Sem.run_bind]
  simp only [p0, h1, Result.andThen_ok]
  cases (a == c)
  · cases (b == d) <;> rfl
  · simp only [Bool.not_true, Bool.false_eq_true, if_false, Sem.run_bind, p1, h1, Result.andThen_ok]
    cases (b == d) <;> rfl
end Go.Proofs.Ythkemajekkilmaa
/- The examples: the values. -/
namespace Go.Proofs.Ythkemajekkilmaa
open Go.RowKit
def chainC : List (List Int) := [[-2, 3], [-1, 2], [-3, -3]]
def wideC : List (List Int) := [[-1, -2, 3], [-3, 4], [5]]
theorem ex_a : impP 3 chainC [1] = [2, 3] ∧ cfP 3 chainC [1] = 2 := ⟨by kernel_rfl, by kernel_rfl⟩
theorem ex_b : impP 3 (chainC.take 2) [1, 1] = [2, 3] ∧ cfP 3 (chainC.take 2) [1, 1] = -1 := ⟨by kernel_rfl, by kernel_rfl⟩
theorem ex_c : impP 3 chainC [2, -2] = [] ∧ cfP 3 chainC [2, -2] = -2 := ⟨by kernel_rfl, by kernel_rfl⟩
theorem ex_r : reasP 3 chainC [] = [(-3, 2), (-2, 0), (-1, 1)] := by kernel_rfl
theorem ex_l : levP 5 wideC [1, 2] = [2, 2, 0] := by kernel_rfl
theorem chain_ran : Ran 3 chainC := by
  intro c hc y hy
  simp only [chainC, List.mem_cons, List.not_mem_nil, or_false] at hc
  rcases hc with rfl | rfl | rfl <;> (simp only [List.mem_cons, List.not_mem_nil, or_false] at hy) <;> rcases hy with rfl | rfl <;> exact ⟨by decide, by decide, by decide⟩
theorem wide_ran : Ran 5 wideC := by
  intro c hc y hy
  simp only [wideC, List.mem_cons, List.not_mem_nil, or_false] at hc
  rcases hc with rfl | rfl | rfl <;> (simp only [List.mem_cons, List.not_mem_nil, or_false] at hy)
  · rcases hy with rfl | rfl | rfl <;> exact ⟨by decide, by decide, by decide⟩
  · rcases hy with rfl | rfl <;> exact ⟨by decide, by decide, by decide⟩
  · subst hy; exact ⟨by decide, by decide, by decide⟩
theorem ex_i1 : contraP (negL [-1, 2]) = true ∨ Conf chainC (negL [-1, 2]) := .inr ((conf_prop chain_ran (by kernel_rfl)).1 (of_decide_eq_false (by kernel_rfl)))
theorem ex_i2 : contraP (negL [2, -2]) = true ∨ Conf chainC (negL [2, -2]) := .inl (by kernel_rfl)
theorem ex_i3 : ¬ (contraP (negL [3]) = true ∨ Conf wideC (negL [3])) := by
  have h1 : contraP (negL [3]) = false := by kernel_rfl
  have h2 := (conf_prop wide_ran (N := negL [3]) h1).2
  have h3 : (propP 5 wideC (negL [3])).2.2.2 = -1 := by kernel_rfl
  rw [h1]
  rintro (h | h)
  · cases h
  · exact h2 h h3
theorem ex_i4 : contraP (negL [4, -1, -2]) = true ∨ Conf wideC (negL [4, -1, -2]) := .inr ((conf_prop wide_ran (by kernel_rfl)).1 (of_decide_eq_false (by kernel_rfl)))
/-- New rows. -/
theorem ints_new (w : World) (zs : List Int) (t : TypeId) (ar : Array Value) (h : ar = (intCells zs).toArray) : IntsW (w.alloc (.cells ar t)) (some ⟨w.heap.size, 0, none⟩) zs.length zs := by
  subst h
  refine ⟨Nat.le_refl _, .inr ⟨w.heap.size, 0, rfl, fun j z hj => ?_⟩⟩
  obtain ⟨hlt, e⟩ := List.getElem?_eq_some_iff.1 hj
  rw [Nat.zero_add]
  go_simp
theorem cls_new (w : World) (zs : List (List Int)) (vs : List Value) (t : TypeId) (ar : Array Value) (h : ar = vs.toArray)
    (hv : ∀ (i : Nat) (z : List Int), zs[i]? = some z → ∃ a c, vs[i]? = some (.slice a z.length c) ∧ IntsW w a c z) : ClsW (w.alloc (.cells ar t)) (some ⟨w.heap.size, 0, none⟩) zs.length zs := by
  subst h
  refine ⟨Nat.le_refl _, .inr ⟨w.heap.size, 0, rfl, fun j z hj => ?_⟩⟩
  obtain ⟨a, c, h1, h2⟩ := hv j z hj
  refine ⟨a, c, ?_, h2.grown (World.grownBy_alloc w _ none)⟩
  rw [Nat.zero_add]
  go_simp
theorem cls_take {w : World} {a : Option Addr} {c : Nat} {zs : List (List Int)} (h : ClsW w a c zs) (k : Nat) : ClsW w a c (zs.take k) := by
  obtain ⟨h1, h2⟩ := h
  refine ⟨by rw [List.length_take]; omega, ?_⟩
  rcases h2 with h2 | ⟨b, o, h3, h4⟩
  · left; rw [h2]; simp
  · refine .inr ⟨b, o, h3, fun j z hj => h4 j z ?_⟩
    rw [List.getElem?_take] at hj
    split at hj
    · exact hj
    · cases hj
theorem inR_of {V : Nat} {A : List Int} (h : A.all (inRb V) = true) : ∀ x ∈ A, InR V x := fun x hx => by
  have := List.all_eq_true.1 h x hx
  unfold inRb at this
  simp only [Bool.and_eq_true, Bool.not_eq_true', beq_eq_false_iff_ne, decide_eq_true_eq] at this
  exact ⟨this.1.1, this.1.2, this.2⟩
/-- A run, at rows that are written out. -/
theorem prop_ex {V : Nat} {C : List (List Int)} {A I : List Int} {k : Int} (hR : Ran V C) (hV : V ≤ 40) (hC : C.length ≤ 1000) (hL : ∀ c ∈ C, c.length ≤ 100) (hAl : A.length ≤ 10000) (hAr : A.all (inRb V) = true) (he : impP V C A = I ∧ cfP V C A = k)
    {w : World} {ca aa : Option Addr} {cc ac : Nat} (h : ClsW w ca cc C) (hA : IntsW w aa ac A) :
    Calls Try.prog 13 #[.agg #[.int .i64 (V : Int), .slice ca C.length cc], .slice aa A.length ac] w fun e w' => ∃ a c, e = .returned (.tuple #[.slice a I.length c, .int .i64 k]) ∧ IntsW w' a c I ∧ w.grownBy w' none := by
  have := propagate_calls V C ca cc A aa ac w h hV hC hL hR hA hAl (inR_of hAr)
  rw [he.1, he.2] at this
  exact this
theorem chain_len : ∀ c ∈ chainC, c.length ≤ 100 := by decide
theorem wide_len : ∀ c ∈ wideC, c.length ≤ 100 := by decide
theorem call_a {w : World} {ca aa : Option Addr} (h : ClsW w ca 3 chainC) (hA : IntsW w aa 1 [1]) :
    Calls Try.prog 13 #[.agg #[.int .i64 3, .slice ca 3 3], .slice aa 1 1] w fun e w' => ∃ a c, e = .returned (.tuple #[.slice a 2 c, .int .i64 2]) ∧ IntsW w' a c [2, 3] ∧ w.grownBy w' none :=
  prop_ex chain_ran (by decide) (by decide) chain_len (by decide) (by decide) ex_a h hA
theorem call_b {w : World} {ca aa : Option Addr} (h : ClsW w ca 3 chainC) (hA : IntsW w aa 2 [1, 1]) :
    Calls Try.prog 13 #[.agg #[.int .i64 3, .slice ca 2 3], .slice aa 2 2] w fun e w' => ∃ a c, e = .returned (.tuple #[.slice a 2 c, .int .i64 (-1)]) ∧ IntsW w' a c [2, 3] ∧ w.grownBy w' none :=
  prop_ex (fun c hc => chain_ran c (List.mem_of_mem_take hc)) (by decide) (by decide) (fun c hc => chain_len c (List.mem_of_mem_take hc)) (by decide) (by decide) ex_b (cls_take h 2) hA
theorem call_c {w : World} {ca aa : Option Addr} (h : ClsW w ca 3 chainC) (hA : IntsW w aa 2 [2, -2]) :
    Calls Try.prog 13 #[.agg #[.int .i64 3, .slice ca 3 3], .slice aa 2 2] w fun e w' => ∃ a c, e = .returned (.tuple #[.slice a 0 c, .int .i64 (-2)]) ∧ IntsW w' a c [] ∧ w.grownBy w' none :=
  prop_ex chain_ran (by decide) (by decide) chain_len (by decide) (by decide) ex_c h hA
theorem call_r {w : World} {ca : Option Addr} (h : ClsW w ca 3 chainC) :
    Calls Try.prog 15 #[.agg #[.int .i64 3, .slice ca 3 3], .slice none 0 0] w fun e w' => ∃ b c, e = .returned (.slice (some ⟨b, 0, none⟩) 3 c) ∧ (w'.cell? ⟨b, 0, none⟩ = some (.int .i64 (-3)) ∧ w'.cell? ⟨b, 1, none⟩ = some (.int .i64 2) ∧ w'.cell? ⟨b, 2, none⟩ = some (.int .i64 (-2)) ∧ w'.cell? ⟨b, 3, none⟩ = some (.int .i64 0) ∧ w'.cell? ⟨b, 4, none⟩ = some (.int .i64 (-1)) ∧ w'.cell? ⟨b, 5, none⟩ = some (.int .i64 1)) ∧ w.grownBy w' none := by
  refine (reasons_calls 3 chainC ca 3 [] none 0 w h (by decide) (by decide) chain_len chain_ran ⟨Nat.le_refl _, .inl rfl⟩ (by decide) (fun x hx => by cases hx) (by decide)).mono ?_
  rintro e w' ⟨a, c, rfl, hown, hg⟩
  rw [ex_r] at hown ⊢
  rcases hown.2 with ⟨_, h0⟩ | ⟨g, cap, cur, e1, _, hc, hn, _, hs, ht⟩
  · cases h0
  · injection e1 with e1 e2 e3
    subst e1 e3
    refine ⟨g, c, rfl, ?_, hg⟩
    have hcell : ∀ j, j < 6 → w'.cell? ⟨g, j, none⟩ = (prC [(-3, 2), (-2, 0), (-1, 1)])[j]? := fun j hj => by
      unfold World.cell?
      rw [hc, ← ht, List.getElem?_take]
      have : j < 3 * 2 := by omega
      simp [this]
    exact ⟨hcell 0 (by decide), hcell 1 (by decide), hcell 2 (by decide), hcell 3 (by decide), hcell 4 (by decide), hcell 5 (by decide)⟩
theorem call_l {w : World} {ca aa : Option Addr} (h : ClsW w ca 3 wideC) (hA : IntsW w aa 2 [1, 2]) :
    Calls Try.prog 18 #[.agg #[.int .i64 5, .slice ca 3 3], .slice aa 2 2] w fun e w' => ∃ a c, e = .returned (.slice a 3 c) ∧ IntsW w' a c [2, 2, 0] ∧ w.grownBy w' none := by
  have := levels_calls 5 wideC ca 3 [1, 2] aa 2 w h (by decide) (by decide) wide_len wide_ran hA (by decide) (inR_of (by decide))
  rw [ex_l] at this
  exact this
theorem impl_ex {V : Nat} {C : List (List Int)} {A : List Int} {b : Bool} (hR : Ran V C) (hV : V ≤ 40) (hC : C.length ≤ 1000) (hL : ∀ c ∈ C, c.length ≤ 100) (hAl : A.length ≤ 10000) (hAr : A.all (inRb V) = true) (he : b = true ↔ (contraP (negL A) = true ∨ Conf C (negL A)))
    {w : World} {ca aa : Option Addr} {cc ac : Nat} (h : ClsW w ca cc C) (hA : IntsW w aa ac A) :
    Calls Try.prog 20 #[.agg #[.int .i64 (V : Int), .slice ca C.length cc], .slice aa A.length ac] w fun e w' => e = .returned (.bool b) ∧ w.grownBy w' none := by
  refine (implies_calls V C ca cc A aa ac w h hV hC hL hR hA hAl (inR_of hAr)).mono ?_
  rintro e w' ⟨⟨d, rfl, hd⟩, hg⟩
  refine ⟨?_, hg⟩
  have : d = b := by rw [Bool.eq_iff_iff, hd, he]
  rw [this]
theorem call_i1 {w : World} {ca aa : Option Addr} (h : ClsW w ca 3 chainC) (hA : IntsW w aa 2 [-1, 2]) :
    Calls Try.prog 20 #[.agg #[.int .i64 3, .slice ca 3 3], .slice aa 2 2] w fun e w' => e = .returned (.bool true) ∧ w.grownBy w' none :=
  impl_ex (V := 3) (C := chainC) (A := [-1, 2]) (b := true) chain_ran (by decide) (by decide) chain_len (by decide) (by decide) ⟨fun _ => ex_i1, fun _ => rfl⟩ h hA
theorem call_i2 {w : World} {ca aa : Option Addr} (h : ClsW w ca 3 chainC) (hA : IntsW w aa 2 [2, -2]) :
    Calls Try.prog 20 #[.agg #[.int .i64 3, .slice ca 3 3], .slice aa 2 2] w fun e w' => e = .returned (.bool true) ∧ w.grownBy w' none :=
  impl_ex (V := 3) (C := chainC) (A := [2, -2]) (b := true) chain_ran (by decide) (by decide) chain_len (by decide) (by decide) ⟨fun _ => ex_i2, fun _ => rfl⟩ h hA
theorem call_i3 {w : World} {ca aa : Option Addr} (h : ClsW w ca 3 wideC) (hA : IntsW w aa 1 [3]) :
    Calls Try.prog 20 #[.agg #[.int .i64 5, .slice ca 3 3], .slice aa 1 1] w fun e w' => e = .returned (.bool false) ∧ w.grownBy w' none :=
  impl_ex (V := 5) (C := wideC) (A := [3]) (b := false) wide_ran (by decide) (by decide) wide_len (by decide) (by decide) ⟨fun h => (by cases h), fun h => absurd h ex_i3⟩ h hA
theorem call_i4 {w : World} {ca aa : Option Addr} (h : ClsW w ca 3 wideC) (hA : IntsW w aa 3 [4, -1, -2]) :
    Calls Try.prog 20 #[.agg #[.int .i64 5, .slice ca 3 3], .slice aa 3 3] w fun e w' => e = .returned (.bool true) ∧ w.grownBy w' none :=
  impl_ex (V := 5) (C := wideC) (A := [4, -1, -2]) (b := true) wide_ran (by decide) (by decide) wide_len (by decide) (by decide) ⟨fun _ => ex_i4, fun _ => rfl⟩ h hA
theorem same_ex {w : World} {l : List Int} {a a' : Option Addr} {c c' n : Nat} (hn : l.length = n) (h : IntsW w a c l) (h' : IntsW w a' c' l) (hl : l.length ≤ 100) :
    Calls Try.prog 17 #[.slice a n c, .slice a' n c'] w fun e w' => e = .returned (.bool true) ∧ w.grownBy w' none := by
  subst hn
  refine (ints_calls l l a a' c c' w h h' (by omega) (by omega)).mono ?_
  rintro e w' ⟨rfl, q, rfl⟩
  exact ⟨by simp, grown_drewN _ _ _⟩
end Go.Proofs.Ythkemajekkilmaa
/- The examples. -/
namespace Go.Proofs.Ythkemajekkilmaa
open Go.RowKit
set_option maxHeartbeats 16000000 in
set_option maxRecDepth 100000 in
theorem head_calls (w0 : World) : Calls Try.prog 10 #[] w0 fun e w' => e = .returned (.bool true) ∧ w0.grownBy w' none := by
  obtain ⟨b0, hb0⟩ : ∃ z, w0.heap.size = z := ⟨_, rfl⟩
  obtain ⟨w1, hw1⟩ : ∃ z, w0.alloc (.cells #[.int .i64 (-2), .int .i64 3] 3) = z := ⟨_, rfl⟩
  have G0 : Hid (w0.grownBy w1 none) := Lib.hid (by rw [← hw1]; exact World.grownBy_alloc w0 _ none)
  have I0 : Hid (IntsW w1 (some ⟨b0, 0, none⟩) 2 [-2, 3]) := Lib.hid (by rw [← hw1, ← hb0]; exact ints_new w0 [-2, 3] 3 _ rfl)
  obtain ⟨b1, hb1⟩ : ∃ z, w1.heap.size = z := ⟨_, rfl⟩
  obtain ⟨w2, hw2⟩ : ∃ z, w1.alloc (.cells #[.int .i64 (-1), .int .i64 2] 3) = z := ⟨_, rfl⟩
  have G1 : Hid (w1.grownBy w2 none) := Lib.hid (by rw [← hw2]; exact World.grownBy_alloc w1 _ none)
  have I1 : Hid (IntsW w2 (some ⟨b1, 0, none⟩) 2 [-1, 2]) := Lib.hid (by rw [← hw2, ← hb1]; exact ints_new w1 [-1, 2] 3 _ rfl)
  obtain ⟨b2, hb2⟩ : ∃ z, w2.heap.size = z := ⟨_, rfl⟩
  obtain ⟨w3, hw3⟩ : ∃ z, w2.alloc (.cells #[.int .i64 (-3), .int .i64 (-3)] 3) = z := ⟨_, rfl⟩
  have G2 : Hid (w2.grownBy w3 none) := Lib.hid (by rw [← hw3]; exact World.grownBy_alloc w2 _ none)
  have I2 : Hid (IntsW w3 (some ⟨b2, 0, none⟩) 2 [-3, -3]) := Lib.hid (by rw [← hw3, ← hb2]; exact ints_new w2 [-3, -3] 3 _ rfl)
  obtain ⟨b3, hb3⟩ : ∃ z, w3.heap.size = z := ⟨_, rfl⟩
  obtain ⟨w4, hw4⟩ : ∃ z, w3.alloc (.cells #[.slice (some ⟨b0, 0, none⟩) 2 2, .slice (some ⟨b1, 0, none⟩) 2 2, .slice (some ⟨b2, 0, none⟩) 2 2] 25) = z := ⟨_, rfl⟩
  have G3 : Hid (w3.grownBy w4 none) := Lib.hid (by rw [← hw4]; exact World.grownBy_alloc w3 _ none)
  have C3 : Hid (ClsW w4 (some ⟨b3, 0, none⟩) 3 chainC) := Lib.hid (by
    rw [← hw4, ← hb3]
    refine cls_new w3 chainC [.slice (some ⟨b0, 0, none⟩) 2 2, .slice (some ⟨b1, 0, none⟩) 2 2, .slice (some ⟨b2, 0, none⟩) 2 2] 25 _ rfl (fun j z hj => ?_)
    match j, hj with
    | 0, hj => cases hj; exact ⟨some ⟨b0, 0, none⟩, 2, rfl, I0.out.grown (World.grownBy.trans G1.out G2.out)⟩
    | 1, hj => cases hj; exact ⟨some ⟨b1, 0, none⟩, 2, rfl, I1.out.grown G2.out⟩
    | 2, hj => cases hj; exact ⟨some ⟨b2, 0, none⟩, 2, rfl, I2.out.grown (grown_refl w3 none)⟩
    | j + 3, hj => cases hj)
  obtain ⟨b4, hb4⟩ : ∃ z, w4.heap.size = z := ⟨_, rfl⟩
  obtain ⟨w5, hw5⟩ : ∃ z, w4.alloc (.cells #[.int .i64 3, .slice (some ⟨b3, 0, none⟩) 3 3] 24) = z := ⟨_, rfl⟩
  have G4 : Hid (w4.grownBy w5 none) := Lib.hid (by rw [← hw5]; exact World.grownBy_alloc w4 _ none)
  have X4 : Hid (w5.cell? ⟨b4, 0, none⟩ = some (.int .i64 3) ∧ w5.cell? ⟨b4, 1, none⟩ = some (.slice (some ⟨b3, 0, none⟩) 3 3)) := Lib.hid (by
    have := box_at w4 _ _ hw5
    rw [hb4] at this
    exact ⟨this.1, this.2.1⟩)
  have q0 := (grown_refl w5 none).cell X4.out.1 (by simp)
  have q1 := (grown_refl w5 none).cell X4.out.2 (by simp)
  obtain ⟨b5, hb5⟩ : ∃ z, w5.heap.size = z := ⟨_, rfl⟩
  obtain ⟨w6, hw6⟩ : ∃ z, w5.alloc (.cells #[.int .i64 1] 3) = z := ⟨_, rfl⟩
  have G5 : Hid (w5.grownBy w6 none) := Lib.hid (by rw [← hw6]; exact World.grownBy_alloc w5 _ none)
  have I5 : Hid (IntsW w6 (some ⟨b5, 0, none⟩) 1 [1]) := Lib.hid (by rw [← hw6, ← hb5]; exact ints_new w5 [1] 3 _ rfl)
  go_enter Try.func10, Try.ntmps10
  go_wp2_with fail
  clear hb0 hw1 hb1 hw2 hb2 hw3 hb3 hw4 hb4 hw5 hb5 hw6 q0 q1
  refine (call_a (C3.out.grown (World.grownBy.trans G4.out G5.out)) (I5.out.grown (grown_refl w6 none))).mono ?_
  rintro e w7 ⟨pa, pc, rfl, hi, hg⟩
  have G6 := Lib.hid hg
  have RA := Lib.hid hi
  clear hi
  obtain ⟨aA, haA⟩ : ∃ z, pa = z := ⟨_, rfl⟩
  obtain ⟨cA, hcA⟩ : ∃ z, pc = z := ⟨_, rfl⟩
  subst haA hcA
  clear hg
  have q0 := (World.grownBy.trans G5.out G6.out).cell X4.out.1 (by simp)
  have q1 := (World.grownBy.trans G5.out G6.out).cell X4.out.2 (by simp)
  obtain ⟨b7, hb7⟩ : ∃ z, w7.heap.size = z := ⟨_, rfl⟩
  obtain ⟨w8, hw8⟩ : ∃ z, w7.alloc (.cells #[.int .i64 1, .int .i64 1] 3) = z := ⟨_, rfl⟩
  have G7 : Hid (w7.grownBy w8 none) := Lib.hid (by rw [← hw8]; exact World.grownBy_alloc w7 _ none)
  have I7 : Hid (IntsW w8 (some ⟨b7, 0, none⟩) 2 [1, 1]) := Lib.hid (by rw [← hw8, ← hb7]; exact ints_new w7 [1, 1] 3 _ rfl)
  go_wp2_with fail
  clear hb7 hw8 q0 q1
  refine (call_b (C3.out.grown (World.grownBy.trans G4.out (World.grownBy.trans G5.out (World.grownBy.trans G6.out G7.out)))) (I7.out.grown (grown_refl w8 none))).mono ?_
  rintro e w9 ⟨pa, pc, rfl, hi, hg⟩
  have G8 := Lib.hid hg
  have RB := Lib.hid hi
  clear hi
  obtain ⟨aB, haB⟩ : ∃ z, pa = z := ⟨_, rfl⟩
  obtain ⟨cB, hcB⟩ : ∃ z, pc = z := ⟨_, rfl⟩
  subst haB hcB
  clear hg
  have q0 := (World.grownBy.trans G5.out (World.grownBy.trans G6.out (World.grownBy.trans G7.out G8.out))).cell X4.out.1 (by simp)
  have q1 := (World.grownBy.trans G5.out (World.grownBy.trans G6.out (World.grownBy.trans G7.out G8.out))).cell X4.out.2 (by simp)
  obtain ⟨b9, hb9⟩ : ∃ z, w9.heap.size = z := ⟨_, rfl⟩
  obtain ⟨w10, hw10⟩ : ∃ z, w9.alloc (.cells #[.int .i64 2, .int .i64 (-2)] 3) = z := ⟨_, rfl⟩
  have G9 : Hid (w9.grownBy w10 none) := Lib.hid (by rw [← hw10]; exact World.grownBy_alloc w9 _ none)
  have I9 : Hid (IntsW w10 (some ⟨b9, 0, none⟩) 2 [2, -2]) := Lib.hid (by rw [← hw10, ← hb9]; exact ints_new w9 [2, -2] 3 _ rfl)
  go_wp2_with fail
  clear hb9 hw10 q0 q1
  refine (call_c (C3.out.grown (World.grownBy.trans G4.out (World.grownBy.trans G5.out (World.grownBy.trans G6.out (World.grownBy.trans G7.out (World.grownBy.trans G8.out G9.out)))))) (I9.out.grown (grown_refl w10 none))).mono ?_
  rintro e w11 ⟨pa, pc, rfl, hi, hg⟩
  have G10 := Lib.hid hg
  have RC := Lib.hid hi
  clear hi
  obtain ⟨aC, haC⟩ : ∃ z, pa = z := ⟨_, rfl⟩
  obtain ⟨cC, hcC⟩ : ∃ z, pc = z := ⟨_, rfl⟩
  subst haC hcC
  clear hg
  have q0 := (World.grownBy.trans G5.out (World.grownBy.trans G6.out (World.grownBy.trans G7.out (World.grownBy.trans G8.out (World.grownBy.trans G9.out G10.out))))).cell X4.out.1 (by simp)
  have q1 := (World.grownBy.trans G5.out (World.grownBy.trans G6.out (World.grownBy.trans G7.out (World.grownBy.trans G8.out (World.grownBy.trans G9.out G10.out))))).cell X4.out.2 (by simp)
  go_wp2_with fail
  clear q0 q1
  refine (call_r (C3.out.grown (World.grownBy.trans G4.out (World.grownBy.trans G5.out (World.grownBy.trans G6.out (World.grownBy.trans G7.out (World.grownBy.trans G8.out (World.grownBy.trans G9.out G10.out)))))))).mono ?_
  rintro e w12 ⟨rb, rc, rfl, hi, hg⟩
  have G11 := Lib.hid hg
  have RR := Lib.hid hi
  clear hi
  clear hg
  obtain ⟨b12, hb12⟩ : ∃ z, w12.heap.size = z := ⟨_, rfl⟩
  obtain ⟨w13, hw13⟩ : ∃ z, w12.alloc (.cells #[.int .i64 (-1), .int .i64 (-2), .int .i64 3] 3) = z := ⟨_, rfl⟩
  have G12 : Hid (w12.grownBy w13 none) := Lib.hid (by rw [← hw13]; exact World.grownBy_alloc w12 _ none)
  have I12 : Hid (IntsW w13 (some ⟨b12, 0, none⟩) 3 [-1, -2, 3]) := Lib.hid (by rw [← hw13, ← hb12]; exact ints_new w12 [-1, -2, 3] 3 _ rfl)
  obtain ⟨b13, hb13⟩ : ∃ z, w13.heap.size = z := ⟨_, rfl⟩
  obtain ⟨w14, hw14⟩ : ∃ z, w13.alloc (.cells #[.int .i64 (-3), .int .i64 4] 3) = z := ⟨_, rfl⟩
  have G13 : Hid (w13.grownBy w14 none) := Lib.hid (by rw [← hw14]; exact World.grownBy_alloc w13 _ none)
  have I13 : Hid (IntsW w14 (some ⟨b13, 0, none⟩) 2 [-3, 4]) := Lib.hid (by rw [← hw14, ← hb13]; exact ints_new w13 [-3, 4] 3 _ rfl)
  obtain ⟨b14, hb14⟩ : ∃ z, w14.heap.size = z := ⟨_, rfl⟩
  obtain ⟨w15, hw15⟩ : ∃ z, w14.alloc (.cells #[.int .i64 5] 3) = z := ⟨_, rfl⟩
  have G14 : Hid (w14.grownBy w15 none) := Lib.hid (by rw [← hw15]; exact World.grownBy_alloc w14 _ none)
  have I14 : Hid (IntsW w15 (some ⟨b14, 0, none⟩) 1 [5]) := Lib.hid (by rw [← hw15, ← hb14]; exact ints_new w14 [5] 3 _ rfl)
  obtain ⟨b15, hb15⟩ : ∃ z, w15.heap.size = z := ⟨_, rfl⟩
  obtain ⟨w16, hw16⟩ : ∃ z, w15.alloc (.cells #[.slice (some ⟨b12, 0, none⟩) 3 3, .slice (some ⟨b13, 0, none⟩) 2 2, .slice (some ⟨b14, 0, none⟩) 1 1] 25) = z := ⟨_, rfl⟩
  have G15 : Hid (w15.grownBy w16 none) := Lib.hid (by rw [← hw16]; exact World.grownBy_alloc w15 _ none)
  have C15 : Hid (ClsW w16 (some ⟨b15, 0, none⟩) 3 wideC) := Lib.hid (by
    rw [← hw16, ← hb15]
    refine cls_new w15 wideC [.slice (some ⟨b12, 0, none⟩) 3 3, .slice (some ⟨b13, 0, none⟩) 2 2, .slice (some ⟨b14, 0, none⟩) 1 1] 25 _ rfl (fun j z hj => ?_)
    match j, hj with
    | 0, hj => cases hj; exact ⟨some ⟨b12, 0, none⟩, 3, rfl, I12.out.grown (World.grownBy.trans G13.out G14.out)⟩
    | 1, hj => cases hj; exact ⟨some ⟨b13, 0, none⟩, 2, rfl, I13.out.grown G14.out⟩
    | 2, hj => cases hj; exact ⟨some ⟨b14, 0, none⟩, 1, rfl, I14.out.grown (grown_refl w15 none)⟩
    | j + 3, hj => cases hj)
  obtain ⟨b16, hb16⟩ : ∃ z, w16.heap.size = z := ⟨_, rfl⟩
  obtain ⟨w17, hw17⟩ : ∃ z, w16.alloc (.cells #[.int .i64 5, .slice (some ⟨b15, 0, none⟩) 3 3] 24) = z := ⟨_, rfl⟩
  have G16 : Hid (w16.grownBy w17 none) := Lib.hid (by rw [← hw17]; exact World.grownBy_alloc w16 _ none)
  have X16 : Hid (w17.cell? ⟨b16, 0, none⟩ = some (.int .i64 5) ∧ w17.cell? ⟨b16, 1, none⟩ = some (.slice (some ⟨b15, 0, none⟩) 3 3)) := Lib.hid (by
    have := box_at w16 _ _ hw17
    rw [hb16] at this
    exact ⟨this.1, this.2.1⟩)
  have q0 := (grown_refl w17 none).cell X16.out.1 (by simp)
  have q1 := (grown_refl w17 none).cell X16.out.2 (by simp)
  obtain ⟨b17, hb17⟩ : ∃ z, w17.heap.size = z := ⟨_, rfl⟩
  obtain ⟨w18, hw18⟩ : ∃ z, w17.alloc (.cells #[.int .i64 1, .int .i64 2] 3) = z := ⟨_, rfl⟩
  have G17 : Hid (w17.grownBy w18 none) := Lib.hid (by rw [← hw18]; exact World.grownBy_alloc w17 _ none)
  have I17 : Hid (IntsW w18 (some ⟨b17, 0, none⟩) 2 [1, 2]) := Lib.hid (by rw [← hw18, ← hb17]; exact ints_new w17 [1, 2] 3 _ rfl)
  go_wp2_with fail
  clear hb12 hw13 hb13 hw14 hb14 hw15 hb15 hw16 hb16 hw17 hb17 hw18 q0 q1
  refine (call_l (C15.out.grown (World.grownBy.trans G16.out G17.out)) (I17.out.grown (grown_refl w18 none))).mono ?_
  rintro e w19 ⟨la, lc, rfl, hi, hg⟩
  have G18 := Lib.hid hg
  have RL := Lib.hid hi
  clear hi
  clear hg
  obtain ⟨b19, hb19⟩ : ∃ z, w19.heap.size = z := ⟨_, rfl⟩
  obtain ⟨w20, hw20⟩ : ∃ z, w19.alloc (.cells #[.int .i64 2, .int .i64 3] 3) = z := ⟨_, rfl⟩
  have G19 : Hid (w19.grownBy w20 none) := Lib.hid (by rw [← hw20]; exact World.grownBy_alloc w19 _ none)
  have I19 : Hid (IntsW w20 (some ⟨b19, 0, none⟩) 2 [2, 3]) := Lib.hid (by rw [← hw20, ← hb19]; exact ints_new w19 [2, 3] 3 _ rfl)
  go_wp2_with fail
  clear hb19 hw20
  refine (same_ex rfl (RA.out.grown (World.grownBy.trans G7.out (World.grownBy.trans G8.out (World.grownBy.trans G9.out (World.grownBy.trans G10.out (World.grownBy.trans G11.out (World.grownBy.trans G12.out (World.grownBy.trans G13.out (World.grownBy.trans G14.out (World.grownBy.trans G15.out (World.grownBy.trans G16.out (World.grownBy.trans G17.out (World.grownBy.trans G18.out G19.out))))))))))))) (I19.out.grown (grown_refl w20 none)) (by decide)).mono ?_
  rintro e w21 ⟨rfl, hg⟩
  have G20 := Lib.hid hg
  clear hg
  obtain ⟨b21, hb21⟩ : ∃ z, w21.heap.size = z := ⟨_, rfl⟩
  obtain ⟨w22, hw22⟩ : ∃ z, w21.alloc (.cells #[.int .i64 2, .int .i64 3] 3) = z := ⟨_, rfl⟩
  have G21 : Hid (w21.grownBy w22 none) := Lib.hid (by rw [← hw22]; exact World.grownBy_alloc w21 _ none)
  have I21 : Hid (IntsW w22 (some ⟨b21, 0, none⟩) 2 [2, 3]) := Lib.hid (by rw [← hw22, ← hb21]; exact ints_new w21 [2, 3] 3 _ rfl)
  go_wp2_with fail
  clear hb21 hw22
  refine (same_ex rfl (RB.out.grown (World.grownBy.trans G9.out (World.grownBy.trans G10.out (World.grownBy.trans G11.out (World.grownBy.trans G12.out (World.grownBy.trans G13.out (World.grownBy.trans G14.out (World.grownBy.trans G15.out (World.grownBy.trans G16.out (World.grownBy.trans G17.out (World.grownBy.trans G18.out (World.grownBy.trans G19.out (World.grownBy.trans G20.out G21.out))))))))))))) (I21.out.grown (grown_refl w22 none)) (by decide)).mono ?_
  rintro e w23 ⟨rfl, hg⟩
  have G22 := Lib.hid hg
  clear hg
  have r0 := (World.grownBy.trans G12.out (World.grownBy.trans G13.out (World.grownBy.trans G14.out (World.grownBy.trans G15.out (World.grownBy.trans G16.out (World.grownBy.trans G17.out (World.grownBy.trans G18.out (World.grownBy.trans G19.out (World.grownBy.trans G20.out (World.grownBy.trans G21.out G22.out)))))))))).cell RR.out.1 (by simp)
  have r1 := (World.grownBy.trans G12.out (World.grownBy.trans G13.out (World.grownBy.trans G14.out (World.grownBy.trans G15.out (World.grownBy.trans G16.out (World.grownBy.trans G17.out (World.grownBy.trans G18.out (World.grownBy.trans G19.out (World.grownBy.trans G20.out (World.grownBy.trans G21.out G22.out)))))))))).cell RR.out.2.1 (by simp)
  have r2 := (World.grownBy.trans G12.out (World.grownBy.trans G13.out (World.grownBy.trans G14.out (World.grownBy.trans G15.out (World.grownBy.trans G16.out (World.grownBy.trans G17.out (World.grownBy.trans G18.out (World.grownBy.trans G19.out (World.grownBy.trans G20.out (World.grownBy.trans G21.out G22.out)))))))))).cell RR.out.2.2.1 (by simp)
  have r3 := (World.grownBy.trans G12.out (World.grownBy.trans G13.out (World.grownBy.trans G14.out (World.grownBy.trans G15.out (World.grownBy.trans G16.out (World.grownBy.trans G17.out (World.grownBy.trans G18.out (World.grownBy.trans G19.out (World.grownBy.trans G20.out (World.grownBy.trans G21.out G22.out)))))))))).cell RR.out.2.2.2.1 (by simp)
  have r4 := (World.grownBy.trans G12.out (World.grownBy.trans G13.out (World.grownBy.trans G14.out (World.grownBy.trans G15.out (World.grownBy.trans G16.out (World.grownBy.trans G17.out (World.grownBy.trans G18.out (World.grownBy.trans G19.out (World.grownBy.trans G20.out (World.grownBy.trans G21.out G22.out)))))))))).cell RR.out.2.2.2.2.1 (by simp)
  have r5 := (World.grownBy.trans G12.out (World.grownBy.trans G13.out (World.grownBy.trans G14.out (World.grownBy.trans G15.out (World.grownBy.trans G16.out (World.grownBy.trans G17.out (World.grownBy.trans G18.out (World.grownBy.trans G19.out (World.grownBy.trans G20.out (World.grownBy.trans G21.out G22.out)))))))))).cell RR.out.2.2.2.2.2 (by simp)
  have heq := eq34
  obtain ⟨b23, hb23⟩ : ∃ z, w23.heap.size = z := ⟨_, rfl⟩
  obtain ⟨w24, hw24⟩ : ∃ z, w23.alloc (.cells #[.int .i64 2, .int .i64 2, .int .i64 0] 3) = z := ⟨_, rfl⟩
  have G23 : Hid (w23.grownBy w24 none) := Lib.hid (by rw [← hw24]; exact World.grownBy_alloc w23 _ none)
  have I23 : Hid (IntsW w24 (some ⟨b23, 0, none⟩) 3 [2, 2, 0]) := Lib.hid (by rw [← hw24, ← hb23]; exact ints_new w23 [2, 2, 0] 3 _ rfl)
  go_wp2_with fail
  clear hb23 hw24 r0 r1 r2 r3 r4 r5 heq
  refine (same_ex rfl (RL.out.grown (World.grownBy.trans G19.out (World.grownBy.trans G20.out (World.grownBy.trans G21.out (World.grownBy.trans G22.out G23.out))))) (I23.out.grown (grown_refl w24 none)) (by decide)).mono ?_
  rintro e w25 ⟨rfl, hg⟩
  have G24 := Lib.hid hg
  clear hg
  have q0 := (World.grownBy.trans G5.out (World.grownBy.trans G6.out (World.grownBy.trans G7.out (World.grownBy.trans G8.out (World.grownBy.trans G9.out (World.grownBy.trans G10.out (World.grownBy.trans G11.out (World.grownBy.trans G12.out (World.grownBy.trans G13.out (World.grownBy.trans G14.out (World.grownBy.trans G15.out (World.grownBy.trans G16.out (World.grownBy.trans G17.out (World.grownBy.trans G18.out (World.grownBy.trans G19.out (World.grownBy.trans G20.out (World.grownBy.trans G21.out (World.grownBy.trans G22.out (World.grownBy.trans G23.out G24.out))))))))))))))))))).cell X4.out.1 (by simp)
  have q1 := (World.grownBy.trans G5.out (World.grownBy.trans G6.out (World.grownBy.trans G7.out (World.grownBy.trans G8.out (World.grownBy.trans G9.out (World.grownBy.trans G10.out (World.grownBy.trans G11.out (World.grownBy.trans G12.out (World.grownBy.trans G13.out (World.grownBy.trans G14.out (World.grownBy.trans G15.out (World.grownBy.trans G16.out (World.grownBy.trans G17.out (World.grownBy.trans G18.out (World.grownBy.trans G19.out (World.grownBy.trans G20.out (World.grownBy.trans G21.out (World.grownBy.trans G22.out (World.grownBy.trans G23.out G24.out))))))))))))))))))).cell X4.out.2 (by simp)
  obtain ⟨b25, hb25⟩ : ∃ z, w25.heap.size = z := ⟨_, rfl⟩
  obtain ⟨w26, hw26⟩ : ∃ z, w25.alloc (.cells #[.int .i64 (-1), .int .i64 2] 3) = z := ⟨_, rfl⟩
  have G25 : Hid (w25.grownBy w26 none) := Lib.hid (by rw [← hw26]; exact World.grownBy_alloc w25 _ none)
  have I25 : Hid (IntsW w26 (some ⟨b25, 0, none⟩) 2 [-1, 2]) := Lib.hid (by rw [← hw26, ← hb25]; exact ints_new w25 [-1, 2] 3 _ rfl)
  go_wp2_with fail
  clear hb25 hw26 q0 q1
  refine (call_i1 (C3.out.grown (World.grownBy.trans G4.out (World.grownBy.trans G5.out (World.grownBy.trans G6.out (World.grownBy.trans G7.out (World.grownBy.trans G8.out (World.grownBy.trans G9.out (World.grownBy.trans G10.out (World.grownBy.trans G11.out (World.grownBy.trans G12.out (World.grownBy.trans G13.out (World.grownBy.trans G14.out (World.grownBy.trans G15.out (World.grownBy.trans G16.out (World.grownBy.trans G17.out (World.grownBy.trans G18.out (World.grownBy.trans G19.out (World.grownBy.trans G20.out (World.grownBy.trans G21.out (World.grownBy.trans G22.out (World.grownBy.trans G23.out (World.grownBy.trans G24.out G25.out)))))))))))))))))))))) (I25.out.grown (grown_refl w26 none))).mono ?_
  rintro e w27 ⟨rfl, hg⟩
  have G26 := Lib.hid hg
  clear hg
  have q0 := (World.grownBy.trans G5.out (World.grownBy.trans G6.out (World.grownBy.trans G7.out (World.grownBy.trans G8.out (World.grownBy.trans G9.out (World.grownBy.trans G10.out (World.grownBy.trans G11.out (World.grownBy.trans G12.out (World.grownBy.trans G13.out (World.grownBy.trans G14.out (World.grownBy.trans G15.out (World.grownBy.trans G16.out (World.grownBy.trans G17.out (World.grownBy.trans G18.out (World.grownBy.trans G19.out (World.grownBy.trans G20.out (World.grownBy.trans G21.out (World.grownBy.trans G22.out (World.grownBy.trans G23.out (World.grownBy.trans G24.out (World.grownBy.trans G25.out G26.out))))))))))))))))))))).cell X4.out.1 (by simp)
  have q1 := (World.grownBy.trans G5.out (World.grownBy.trans G6.out (World.grownBy.trans G7.out (World.grownBy.trans G8.out (World.grownBy.trans G9.out (World.grownBy.trans G10.out (World.grownBy.trans G11.out (World.grownBy.trans G12.out (World.grownBy.trans G13.out (World.grownBy.trans G14.out (World.grownBy.trans G15.out (World.grownBy.trans G16.out (World.grownBy.trans G17.out (World.grownBy.trans G18.out (World.grownBy.trans G19.out (World.grownBy.trans G20.out (World.grownBy.trans G21.out (World.grownBy.trans G22.out (World.grownBy.trans G23.out (World.grownBy.trans G24.out (World.grownBy.trans G25.out G26.out))))))))))))))))))))).cell X4.out.2 (by simp)
  obtain ⟨b27, hb27⟩ : ∃ z, w27.heap.size = z := ⟨_, rfl⟩
  obtain ⟨w28, hw28⟩ : ∃ z, w27.alloc (.cells #[.int .i64 2, .int .i64 (-2)] 3) = z := ⟨_, rfl⟩
  have G27 : Hid (w27.grownBy w28 none) := Lib.hid (by rw [← hw28]; exact World.grownBy_alloc w27 _ none)
  have I27 : Hid (IntsW w28 (some ⟨b27, 0, none⟩) 2 [2, -2]) := Lib.hid (by rw [← hw28, ← hb27]; exact ints_new w27 [2, -2] 3 _ rfl)
  go_wp2_with fail
  clear hb27 hw28 q0 q1
  refine (call_i2 (C3.out.grown (World.grownBy.trans G4.out (World.grownBy.trans G5.out (World.grownBy.trans G6.out (World.grownBy.trans G7.out (World.grownBy.trans G8.out (World.grownBy.trans G9.out (World.grownBy.trans G10.out (World.grownBy.trans G11.out (World.grownBy.trans G12.out (World.grownBy.trans G13.out (World.grownBy.trans G14.out (World.grownBy.trans G15.out (World.grownBy.trans G16.out (World.grownBy.trans G17.out (World.grownBy.trans G18.out (World.grownBy.trans G19.out (World.grownBy.trans G20.out (World.grownBy.trans G21.out (World.grownBy.trans G22.out (World.grownBy.trans G23.out (World.grownBy.trans G24.out (World.grownBy.trans G25.out (World.grownBy.trans G26.out G27.out)))))))))))))))))))))))) (I27.out.grown (grown_refl w28 none))).mono ?_
  rintro e w29 ⟨rfl, hg⟩
  have G28 := Lib.hid hg
  clear hg
  have q0 := (World.grownBy.trans G17.out (World.grownBy.trans G18.out (World.grownBy.trans G19.out (World.grownBy.trans G20.out (World.grownBy.trans G21.out (World.grownBy.trans G22.out (World.grownBy.trans G23.out (World.grownBy.trans G24.out (World.grownBy.trans G25.out (World.grownBy.trans G26.out (World.grownBy.trans G27.out G28.out))))))))))).cell X16.out.1 (by simp)
  have q1 := (World.grownBy.trans G17.out (World.grownBy.trans G18.out (World.grownBy.trans G19.out (World.grownBy.trans G20.out (World.grownBy.trans G21.out (World.grownBy.trans G22.out (World.grownBy.trans G23.out (World.grownBy.trans G24.out (World.grownBy.trans G25.out (World.grownBy.trans G26.out (World.grownBy.trans G27.out G28.out))))))))))).cell X16.out.2 (by simp)
  obtain ⟨b29, hb29⟩ : ∃ z, w29.heap.size = z := ⟨_, rfl⟩
  obtain ⟨w30, hw30⟩ : ∃ z, w29.alloc (.cells #[.int .i64 3] 3) = z := ⟨_, rfl⟩
  have G29 : Hid (w29.grownBy w30 none) := Lib.hid (by rw [← hw30]; exact World.grownBy_alloc w29 _ none)
  have I29 : Hid (IntsW w30 (some ⟨b29, 0, none⟩) 1 [3]) := Lib.hid (by rw [← hw30, ← hb29]; exact ints_new w29 [3] 3 _ rfl)
  go_wp2_with fail
  clear hb29 hw30 q0 q1
  refine (call_i3 (C15.out.grown (World.grownBy.trans G16.out (World.grownBy.trans G17.out (World.grownBy.trans G18.out (World.grownBy.trans G19.out (World.grownBy.trans G20.out (World.grownBy.trans G21.out (World.grownBy.trans G22.out (World.grownBy.trans G23.out (World.grownBy.trans G24.out (World.grownBy.trans G25.out (World.grownBy.trans G26.out (World.grownBy.trans G27.out (World.grownBy.trans G28.out G29.out)))))))))))))) (I29.out.grown (grown_refl w30 none))).mono ?_
  rintro e w31 ⟨rfl, hg⟩
  have G30 := Lib.hid hg
  clear hg
  have q0 := (World.grownBy.trans G17.out (World.grownBy.trans G18.out (World.grownBy.trans G19.out (World.grownBy.trans G20.out (World.grownBy.trans G21.out (World.grownBy.trans G22.out (World.grownBy.trans G23.out (World.grownBy.trans G24.out (World.grownBy.trans G25.out (World.grownBy.trans G26.out (World.grownBy.trans G27.out (World.grownBy.trans G28.out (World.grownBy.trans G29.out G30.out))))))))))))).cell X16.out.1 (by simp)
  have q1 := (World.grownBy.trans G17.out (World.grownBy.trans G18.out (World.grownBy.trans G19.out (World.grownBy.trans G20.out (World.grownBy.trans G21.out (World.grownBy.trans G22.out (World.grownBy.trans G23.out (World.grownBy.trans G24.out (World.grownBy.trans G25.out (World.grownBy.trans G26.out (World.grownBy.trans G27.out (World.grownBy.trans G28.out (World.grownBy.trans G29.out G30.out))))))))))))).cell X16.out.2 (by simp)
  obtain ⟨b31, hb31⟩ : ∃ z, w31.heap.size = z := ⟨_, rfl⟩
  obtain ⟨w32, hw32⟩ : ∃ z, w31.alloc (.cells #[.int .i64 4, .int .i64 (-1), .int .i64 (-2)] 3) = z := ⟨_, rfl⟩
  have G31 : Hid (w31.grownBy w32 none) := Lib.hid (by rw [← hw32]; exact World.grownBy_alloc w31 _ none)
  have I31 : Hid (IntsW w32 (some ⟨b31, 0, none⟩) 3 [4, -1, -2]) := Lib.hid (by rw [← hw32, ← hb31]; exact ints_new w31 [4, -1, -2] 3 _ rfl)
  go_wp2_with fail
  clear hb31 hw32 q0 q1
  refine (call_i4 (C15.out.grown (World.grownBy.trans G16.out (World.grownBy.trans G17.out (World.grownBy.trans G18.out (World.grownBy.trans G19.out (World.grownBy.trans G20.out (World.grownBy.trans G21.out (World.grownBy.trans G22.out (World.grownBy.trans G23.out (World.grownBy.trans G24.out (World.grownBy.trans G25.out (World.grownBy.trans G26.out (World.grownBy.trans G27.out (World.grownBy.trans G28.out (World.grownBy.trans G29.out (World.grownBy.trans G30.out G31.out)))))))))))))))) (I31.out.grown (grown_refl w32 none))).mono ?_
  rintro e w33 ⟨rfl, hg⟩
  have G32 := Lib.hid hg
  clear hg
  go_wp2_with fail
  go_ret
  exact ⟨rfl, (World.grownBy.trans G0.out (World.grownBy.trans G1.out (World.grownBy.trans G2.out (World.grownBy.trans G3.out (World.grownBy.trans G4.out (World.grownBy.trans G5.out (World.grownBy.trans G6.out (World.grownBy.trans G7.out (World.grownBy.trans G8.out (World.grownBy.trans G9.out (World.grownBy.trans G10.out (World.grownBy.trans G11.out (World.grownBy.trans G12.out (World.grownBy.trans G13.out (World.grownBy.trans G14.out (World.grownBy.trans G15.out (World.grownBy.trans G16.out (World.grownBy.trans G17.out (World.grownBy.trans G18.out (World.grownBy.trans G19.out (World.grownBy.trans G20.out (World.grownBy.trans G21.out (World.grownBy.trans G22.out (World.grownBy.trans G23.out (World.grownBy.trans G24.out (World.grownBy.trans G25.out (World.grownBy.trans G26.out (World.grownBy.trans G27.out (World.grownBy.trans G28.out (World.grownBy.trans G29.out (World.grownBy.trans G30.out (World.grownBy.trans G31.out G32.out))))))))))))))))))))))))))))))))⟩
end Go.Proofs.Ythkemajekkilmaa
/- The law's horn. -/
namespace Go.Proofs.Ythkemajekkilmaa
open Go.RowKit
def hornC (c : List Int) : Bool := decide (∀ x ∈ c, ∀ y ∈ c, 0 < x → 0 < y → x = y)
def hornB (C : List (List Int)) : Bool := C.all hornC
/-- Behind the first literals. -/
def HpI (c : List Int) (k : Nat) (p : Int) : Prop := (p = 0 ∧ ∀ x ∈ c.take k, ¬ 0 < x) ∨ (0 < p ∧ p ∈ c.take k ∧ ∀ x ∈ c.take k, 0 < x → x = p)
theorem HpI.start (c : List Int) : HpI c 0 0 := .inl ⟨rfl, fun x hx => by simp at hx⟩
theorem HpI.skip {c : List Int} {k : Nat} {p z : Int} (h : HpI c k p) (hz : c[k]? = some z) (hn : ¬ 0 < z) : HpI c (k + 1) p := by
  unfold HpI
  rw [take_snoc hz]
  rcases h with ⟨e, h1⟩ | ⟨e, h1, h2⟩
  · exact .inl ⟨e, fun x hx => by
      rcases List.mem_append.1 hx with hx | hx
      · exact h1 x hx
      · rw [List.mem_singleton.1 hx]; exact hn⟩
  · exact .inr ⟨e, List.mem_append_left _ h1, fun x hx hp => by
      rcases List.mem_append.1 hx with hx | hx
      · exact h2 x hx hp
      · rw [List.mem_singleton.1 hx] at hp; exact absurd hp hn⟩
theorem HpI.pos {c : List Int} {k : Nat} {p z : Int} (h : HpI c k p) (hz : c[k]? = some z) (hn : 0 < z) (hs : p = 0 ∨ z = p) : HpI c (k + 1) z := by
  unfold HpI
  rw [take_snoc hz]
  refine .inr ⟨hn, by simp, fun x hx hp => ?_⟩
  rcases List.mem_append.1 hx with hx | hx
  · rcases h with ⟨e, h1⟩ | ⟨e, h1, h2⟩
    · exact absurd hp (h1 x hx)
    · rcases hs with hs | hs
      · omega
      · rw [hs]; exact h2 x hx hp
  · exact List.mem_singleton.1 hx
theorem HpI.two {c : List Int} {k : Nat} {p z : Int} (h : HpI c k p) (hz : c[k]? = some z) (hn : 0 < z) (h0 : p ≠ 0) (hne : z ≠ p) : hornC c = false := by
  rcases h with ⟨e, _⟩ | ⟨e, h1, _⟩
  · exact absurd e h0
  · exact decide_eq_false (fun hh => hne (hh z (List.mem_of_getElem? hz) p (List.mem_of_mem_take h1) hn e))
theorem HpI.done {c : List Int} {p : Int} (h : HpI c c.length p) : hornC c = true := by
  unfold HpI at h
  rw [List.take_length] at h
  refine decide_eq_true (fun x hx y hy hx0 hy0 => ?_)
  rcases h with ⟨_, h1⟩ | ⟨_, _, h2⟩
  · exact absurd hx0 (h1 x hx)
  · rw [h2 x hx hx0, h2 y hy hy0]
set_option maxHeartbeats 8000000 in
set_option maxRecDepth 100000 in
theorem horn_calls (V : Int) (C : List (List Int)) (ca : Option Addr) (cc : Nat) (w : World) (h : ClsW w ca cc C) (hC : C.length ≤ 1000000) (hL : ∀ c ∈ C, c.length ≤ 100000) :
    Calls Try.prog 32 #[.agg #[.int .i64 V, .slice ca C.length cc]] w fun e w' => e = .returned (.bool (hornB C)) ∧ w.grownBy w' none := by
  obtain ⟨n, hn⟩ : ∃ n, C.length = n := ⟨_, rfl⟩
  obtain ⟨W1, hW1⟩ : ∃ z, w.alloc (.cells #[.int .i64 V, .slice ca n cc] 24) = z := ⟨_, rfl⟩
  obtain ⟨q0, q1, hg1⟩ := box_at w _ _ hW1
  have HH := Lib.hid (And.intro (h.grown hg1) (And.intro hL (And.intro hn hg1)))
  rw [hn] at hC ⊢
  obtain ⟨bf, hbf⟩ : ∃ z, w.heap.size = z := ⟨_, rfl⟩
  rw [hbf] at q0 q1
  obtain ⟨d, hd⟩ : ∃ d, hornB C = d := ⟨_, rfl⟩
  rw [hd]
  have HD := Lib.hid hd
  clear h hL hn hg1 hd
  go_enter Try.func32, Try.ntmps32
  go_wp2_with fail
  clear hW1
  go_loopg [3, 4, 5, 6] n (fun gk s3 _s4 _s5 _s6 w' => ∃ k : Nat, s3 = .int .i64 (k : Int) ∧ gk = n - k ∧ k ≤ n ∧ w' = W1 ∧ (C.take k).all hornC = true)
  case atStart => exact ⟨0, rfl, rfl, by omega, rfl, by simp⟩
  case round =>
    obtain ⟨k, rfl, hgk, hk, rfl, hbef⟩ := hrel
    have HI := Lib.hid (And.intro hgk hbef)
    clear hgk hbef
    by_cases hkn : k < n
    · have f1 : decide ((k : Int) < (n : Int)) = true := decide_eq_true (by omega)
      have f1' : decide (k < n) = true := decide_eq_true hkn
      have i0 : (0 : Int) ≤ (k : Int) := by omega
      have i1 : (k : Int) < (n : Int) := by omega
      have k1 : IntKind.i64.wrap ((k : Int) + 1) = (k : Int) + 1 := IntWalk.i64_in _ (by omega)
      obtain ⟨c, hz⟩ : ∃ z, C[k]? = some z := ⟨_, List.getElem?_eq_getElem (by rw [HH.out.2.2.1]; exact hkn)⟩
      have hcl := HH.out.2.1 c (List.mem_of_getElem? hz)
      obtain ⟨b, o, a', c', rfl, hcell, hints⟩ := HH.out.1.at hz
      obtain ⟨l, hl⟩ : ∃ l, c.length = l := ⟨_, rfl⟩
      rw [hl] at hcell hcl
      have HZ := Lib.hid (And.intro hz (And.intro hints hl))
      clear hz hints hl
      go_wp2_with fail
      clear f1 f1'
      go_loopg [4, 5, 6] l (fun gk s4 s5 _s6 w' => ∃ (j : Nat) (p : Int), s4 = .int .i64 p ∧ s5 = .int .i64 (j : Int) ∧ gk = l - j ∧ j ≤ l ∧ w' = wr ∧ HpI c j p)
      case atStart => exact ⟨0, 0, rfl, rfl, rfl, by omega, rfl, HpI.start c⟩
      case round =>
        obtain ⟨j, p, rfl, rfl, hgj, hj, rfl, hp⟩ := hrel
        have HJ := Lib.hid (And.intro hgj hp)
        clear hgj hp
        by_cases hjl : j < l
        · have f1 : decide ((j : Int) < (l : Int)) = true := decide_eq_true (by omega)
          have f1' : decide (j < l) = true := decide_eq_true hjl
          have j0 : (0 : Int) ≤ (j : Int) := by omega
          have j1 : (j : Int) < (l : Int) := by omega
          have k2 : IntKind.i64.wrap ((j : Int) + 1) = (j : Int) + 1 := IntWalk.i64_in _ (by omega)
          obtain ⟨x, hx⟩ : ∃ x, c[j]? = some x := ⟨_, List.getElem?_eq_getElem (by rw [HZ.out.2.2]; exact hjl)⟩
          obtain ⟨b5, o5, rfl, hcx⟩ := HZ.out.2.1.at hx
          have HX := Lib.hid hx
          clear hx
          by_cases hx0 : 0 < x
          · have t0 : decide (0 < x) = true := decide_eq_true hx0
            by_cases hp0 : p = 0
            · have b0 : (p != 0) = false := by simp [hp0]
              have HN := Lib.hid (HJ.out.2.pos HX.out hx0 (.inl hp0))
              clear hp0 hx0
              go_wp2_with fail
              go_roundg (l - (j + 1))
              case measure => rw [HJ.out.1]; omega
              case rel => exact ⟨j + 1, x, rfl, rfl, rfl, by omega, rfl, HN.out⟩
            · have b0 : (p != 0) = true := by simpa using hp0
              by_cases hxp : x = p
              · have b1 : (x != p) = false := by simp [hxp]
                have HN := Lib.hid (HJ.out.2.pos HX.out hx0 (.inr hxp))
                clear hxp hp0 hx0
                go_wp2_with fail
                go_roundg (l - (j + 1))
                case measure => rw [HJ.out.1]; omega
                case rel => exact ⟨j + 1, x, rfl, rfl, rfl, by omega, rfl, HN.out⟩
              · have b1 : (x != p) = true := by simpa using hxp
                have HR : Hid (d = false) := Lib.hid (by rw [← HD.out]; exact all_no (f := hornC) (List.mem_of_getElem? HZ.out.1) (HJ.out.2.two HX.out hx0 hp0 hxp))
                clear hxp hp0 hx0
                go_wp2_with fail
                go_ret
                exact ⟨by rw [HR.out]; rfl, HH.out.2.2.2⟩
          · have t0 : decide (0 < x) = false := decide_eq_false hx0
            have HN := Lib.hid (HJ.out.2.skip HX.out hx0)
            clear hx0
            go_wp2_with fail
            go_roundg (l - (j + 1))
            case measure => rw [HJ.out.1]; omega
            case rel => exact ⟨j + 1, p, rfl, rfl, rfl, by omega, rfl, HN.out⟩
        · have hje : j = l := by omega
          subst hje
          have f1 : decide (j < j) = false := by simp
          have HN : Hid ((C.take (k + 1)).all hornC = true) := Lib.hid (by
            have h := HJ.out.2
            rw [← HZ.out.2.2] at h
            rw [ctake HZ.out.1, HI.out.2, h.done]; rfl)
          go_wp2_with fail
          go_roundg (n - (k + 1))
          case measure => rw [HI.out.1]; omega
          case rel => exact ⟨k + 1, rfl, rfl, by omega, rfl, HN.out⟩
    · have hke : k = n := by omega
      subst hke
      have f1 : decide (k < k) = false := by simp
      have HR : Hid (d = true) := Lib.hid (by rw [← HD.out]; unfold hornB; have := HI.out.2; rwa [← HH.out.2.2.1, List.take_length] at this)
      go_wp2_with fail
      go_ret
      exact ⟨by rw [HR.out]; rfl, HH.out.2.2.2⟩
end Go.Proofs.Ythkemajekkilmaa
/- The laws, plainly: what Monotonic asks. -/
namespace Go.Proofs.Ythkemajekkilmaa
theorem contra_more {A B : List Int} (h : ∀ x ∈ A, x ∈ B) (hc : contraP A = true) : contraP B = true := by
  obtain ⟨x, hx, hn⟩ := List.any_eq_true.1 hc
  exact List.any_eq_true.2 ⟨x, h x hx, by simpa using h (-x) (by simpa using hn)⟩
theorem negL_more {L M : List Int} (h : ∀ x ∈ L, x ∈ M) : ∀ x ∈ negL L, x ∈ negL M := fun x hx => by
  unfold negL at hx ⊢
  obtain ⟨y, hy, rfl⟩ := List.mem_map.1 hx
  exact List.mem_map.2 ⟨y, h y hy, rfl⟩
theorem implies_more {C D : List (List Int)} {L M : List Int} (hC : ∀ c ∈ C, c ∈ D) (hL : ∀ x ∈ L, x ∈ M) (h : contraP (negL L) = true ∨ Conf C (negL L)) : contraP (negL M) = true ∨ Conf D (negL M) :=
  h.elim (fun h => .inl (contra_more (negL_more hL) h)) (fun h => .inr (h.mono hC (fun x hx => .ass x (negL_more hL x hx))))
theorem mono_all {V : Nat} {C D : List (List Int)} {A B : List Int} (hR : Ran V C) (hR' : Ran V D) (hC : ∀ c ∈ C, c ∈ D) (hA : ∀ x ∈ A, x ∈ B) :
    (contraP B = true → cfP V D B = -2) ∧ (contraP B = false → 0 ≤ cfP V C A → 0 ≤ cfP V D B) ∧ (contraP B = false → ¬ 0 ≤ cfP V C A → 0 ≤ cfP V D B ∨ ∀ x ∈ impP V C A, x ∈ impP V D B ++ B) := by
  obtain ⟨a1, a2, a3⟩ := cf_kinds hR A
  obtain ⟨b1, b2, b3⟩ := cf_kinds hR' B
  have hac : contraP B = false → contraP A = false := fun hb => by
    cases ha : contraP A with
    | false => rfl
    | true => rw [contra_more hA ha] at hb; cases hb
  refine ⟨b1.2, fun hb h => ?_, fun hb h => ?_⟩
  · exact (b3 hb).2 (((a3 (hac hb)).1 h).mono hC (fun x hx => .ass x (hA x hx)))
  · by_cases hc : Conf D B
    · exact .inl ((b3 hb).2 hc)
    · right
      have hD := (b2 hb).2 hc
      have hA1 : cfP V C A = -1 := (a2 (hac hb)).2 (fun hh => h ((a3 (hac hb)).2 hh))
      intro x hx
      have h1 := ((imp_mem hR hA1 x).1 hx).1
      have h2 : Der D B x := h1.mono hC (fun y hy => .ass y (hA y hy))
      by_cases hm : x ∈ B
      · exact List.mem_append_right _ hm
      · exact List.mem_append_left _ ((imp_mem hR' hD x).2 ⟨h2, hm⟩)
end Go.Proofs.Ythkemajekkilmaa
