/- Texts of the proof: RE. -/
import Derived.Test.YthdhmflodiincaaCD00
import Derived.Test.YthdhmflodiincaaCD16
import Derived.Test.YthdhmflodiincaaCD15
import Derived.Deep.DeepCutAuto
import Derived.Defers
import Derived.Recover
set_option maxRecDepth 100000
set_option maxHeartbeats 8000000
namespace Go.Proofs.Ythdhmflodiincaa
open Lib (hid)
open Go.RowKit Go.Shelf Go.Maps

theorem mjoin_calls (gs : List Gt) (a b : List Cl) (n k j rest total : Nat) (gF : List Gt) (mF : List Cl) (xa : Option Addr) (xc : Nat) (aa : Option Addr) (na ca : Nat) (ba : Option Addr) (nb cb : Nat) (w : World)
  (eF : (mjoinP (n : Int) (rest : Int) total a b).run gs = (gF, mF)) (h : GatesW w xa xc gs) (hma : CellsW w aa ca a) (hna : a.length = na) (hmb : CellsW w ba cb b) (hnb : b.length = nb) (hG : Good gs) (hMa : Mat gs a) (hMb : Mat gs b) (hl : gs.length + 2 * (na * nb) ≤ 960) (hla : na ≤ 200) (hlb : nb ≤ 200)
  (hn1 : 1 ≤ n) (hn4 : n ≤ 4) (hj1 : 1 ≤ j) (hj3 : j ≤ 3) (hk3 : k ≤ 3) (hr : rest = n ^ (j - 1)) (htt : total ≤ 100000) (hra : ∀ c ∈ a, 0 ≤ c.1 ∧ c.1 ≤ 10000) (hrb : ∀ c ∈ b, 0 ≤ c.1 ∧ c.1 ≤ 10000) (hjr : ∀ p ∈ jPairs (n : Int) (rest : Int) a b, 0 ≤ jr (n : Int) (rest : Int) p ∧ jr (n : Int) (rest : Int) p < (total : Int)) :
  Calls Try.prog 40 #[.agg #[.slice xa gs.length xc], .int .i64 (n : Int), .agg #[.int .i64 (k : Int), .slice aa na ca], .agg #[.int .i64 (j : Int), .slice ba nb cb]] w (AnsM w gF ((k : Int) + (j : Int) - 2) mF) := by
 obtain ⟨ng, hng⟩ : ∃ n, gs.length = n := ⟨_, rfl⟩
 have hb5 := b5 w (.slice xa ng xc) (.int .i64 (k : Int)) (.slice aa na ca) (.int .i64 (j : Int)) (.slice ba nb cb)
 obtain ⟨W5, hW5⟩ : ∃ z, w5 w (.slice xa ng xc) (.int .i64 (k : Int)) (.slice aa na ca) (.int .i64 (j : Int)) (.slice ba nb cb) = z := ⟨_, rfl⟩
 rw [hW5] at hb5
 unfold w5 at hW5
 rw [hng] at hl ⊢
 have HB := hid hb5
 have HN := hid (And.intro hng (And.intro hna hnb))
 have HL := hid (And.intro hl (And.intro hla hlb))
 have HE := hid eF
 have HGM := hid (And.intro hG (And.intro hMa hMb))
 have HC := hid (And.intro h (And.intro hma hmb))
 have HNA := hid (fun (U : World) (hU : W5.grownBy U none) => newalg_calls gs (n : Int) xa xc U (h.grown (gT hb5.g hU)))
 rw [hng] at HNA
 have HRG := hid (And.intro hra (And.intro hrb hjr))
 have HTT0 := hid htt
 have HNK := hid (show 1 ≤ n ∧ n ≤ 4 ∧ 1 ≤ j ∧ j ≤ 3 ∧ k ≤ 3 ∧ rest = n ^ (j - 1) from ⟨hn1, hn4, hj1, hj3, hk3, hr⟩)
 have hmf : ∀ (fn : Fn) (first cap : Array Value) (w : World), (Instr.makeFunc fn first cap).run Try.prog w = .ok (.func fn first cap) w := fun _ _ _ _ => rfl
 have z0 := HB.out.c
 clear hb5 hng eF h hma hna hmb hnb hG hMa hMb hl hla hlb hra hrb hjr hr
 go_enter_defers Try.func40, Try.ntmps40
 go_wp2_with fail
 clear hW5 z0
 refine (HNA.out W5 (grown_refl _ _)).mono ?_
 rintro e V ⟨s, q, p, rfl, hp, hq, hs, hpq, hps, hqs, hs0, hs1, hq0, hgx, hg1⟩
 have HG1 := hid hg1
 have HX0 := hid (And.intro hs0 (And.intro hq0 hgx))
 have HWB := hid (show W5.heap.size = w.heap.size + 5 ∧ w.heap.size + 5 ≤ p ∧ w.heap.size + 5 ≤ q ∧ w.heap.size + 5 ≤ s ∧ p ≠ q ∧ p ≠ s ∧ q ≠ s ∧ p < V.heap.size ∧ q < V.heap.size ∧ s < V.heap.size from by have h1 := HB.out.sz; have h2 := hgx.p_lt; have h3 : q < V.heap.size := lies_lt hq0; have h4 : s < V.heap.size := lies_lt hs0; omega)
 have y3 := hg1.cell HB.out.b0 (by simp)
 have hw1 : IntKind.i64.wrap ((j : Int) - 1) = ((j - 1 : Nat) : Int) := by rw [IntWalk.i64_in _ (by have := HNK.out; omega)]; have := HNK.out; omega
 have HPC := hid (power_calls s n (j - 1) V hs1 (by have := HNK.out; omega) (by have := HNK.out; omega))
 rw [← HNK.out.2.2.2.2.2] at HPC
 have hgm := gAl V (.map #[] 0) none
 have hmt := MapT.made V (fun _ => (1 : Int))
 obtain ⟨V2, hV2⟩ : ∃ z, V.alloc (.map #[] 0) = z := ⟨_, rfl⟩
 have hs2 : V2.heap.size = V.heap.size + 1 := by rw [← hV2]; simp
 rw [hV2] at hgm hmt
 obtain ⟨bm, hbm⟩ : ∃ z, V.heap.size = z := ⟨_, rfl⟩
 rw [hbm] at hmt hs2
 have hmm : (Instr.makeMap 102 none).run Try.prog V = .ok (.map (some bm)) V2 := by rw [← hV2, ← hbm]; rfl
 have hgx2 := hgx.grown hgm
 have hJS : JSt W5 p q s bm gs 0 (fun _ => false) (fun _ => (1 : Int)) V2 := ⟨⟨0, hgx2.own⟩, hgm.cell hs0 (by simp), hgm.cell hq0 (by simp), hmt, gT hg1 hgm, by have := HWB.out; omega, fun e => by have e' : bm = p := hgx2.own_in e; have := HWB.out; omega, fun e => by have e' : q = p := hgx2.own_in e; have := HWB.out; omega, fun e => by have e' : s = p := hgx2.own_in e; have := HWB.out; omega⟩
 have HWM := hid (And.intro hbm hs2)
 have y1 := (gT hg1 hgm).cell HB.out.a1 (by simp)
 clear hp hq hs hpq hps hqs hs0 hs1 hq0 hgx hg1 hgm hmt hV2 hbm hs2 hgx2
 obtain ⟨tE, hfE⟩ : ∃ z : List Gt × (Int → Int), (foldP (jF (n : Int) (rest : Int)) (jPairs (n : Int) (rest : Int) a b) fun _ => 1).run gs = z := ⟨_, rfl⟩
 obtain ⟨gE, tE⟩ := tE
 have e0 := HE.out
 rw [run_mjoin hfE] at e0
 injection e0 with e0 e1
 subst e0 e1
 have HTI := hid (table_in hfE HRG.out.2.2)
 have HRS := hid (show 1 ≤ rest ∧ rest ≤ 16 from by rw [HNK.out.2.2.2.2.2]; exact jpow_le HNK.out.1 HNK.out.2.1 HNK.out.2.2.2.1)
 have HJ0 := hid (show JL W5 p q s bm gs gE tE (n : Int) (rest : Int) total (jPairs (n : Int) (rest : Int) (a.drop 0) b) (0 * nb) V2 from ⟨gs, _, _, 0, hJS, hfE, ⟨HGM.out.1, List.prefix_refl _, by omega, Nat.zero_le _⟩, fun _ _ => rfl, fun _ => (one_ok HGM.out.1).1, fun k hk => by cases hk⟩)
 clear hJS hfE HE
 go_wp2_with (go_at_call 86; refine HPC.out.mono ?_; rintro e w' ⟨rfl, hw'⟩; rw [hw']; clear hw' w')
 clear y1 y3 hmm hw1 hmf
 go_loopg [36] na (fun gk s36 wr => ∃ i : Nat, s36 = .int .i64 (i : Int) ∧ gk = na - i ∧ i ≤ na ∧ JL W5 p q s bm gs gE tE (n : Int) (rest : Int) total (jPairs (n : Int) (rest : Int) (a.drop i) b) (i * nb) wr)
 case atStart => exact ⟨0, rfl, rfl, Nat.zero_le _, HJ0.out⟩
 case round =>
  obtain ⟨i, rfl, hgi, hi, hj⟩ := hrel
  have HI := hid (And.intro hgi hj)
  clear hgi hj
  by_cases hin : i < na
  ·
   have f1 : decide (i < na) = true := decide_eq_true hin
   have f2 : decide ((i : Int) < (na : Int)) = true := decide_eq_true (by omega)
   have hj0 : (0 : Int) ≤ (i : Int) := by omega
   have hj1 : (i : Int) < (na : Int) := by omega
   obtain ⟨x, hx⟩ : ∃ r, a[i]? = some r := ⟨_, List.getElem?_eq_getElem (by rw [HN.out.2.1]; exact hin)⟩
   have hgw := gT HB.out.g HI.out.2.grown
   obtain ⟨ba, oa, rfl, x0, x1⟩ := (HC.out.2.1.grown hgw).at hx
   have y2 := HI.out.2.grown.cell HB.out.b1 (by simp)
   have HXX := hid hx
   have hrx := HRG.out.1 x (List.mem_of_getElem? hx)
   obtain ⟨xr, hxr⟩ : ∃ z : Nat, x.1 = (z : Int) := ⟨x.1.toNat, by omega⟩
   have HXR := hid (And.intro hxr (show xr ≤ 10000 by omega))
   clear hx hrx hgw
   rw [hxr] at x0
   go_upto_region 8 with fail
   have g5 := gAl wr (.cells #[.int .i64 (xr : Int), .int .i64 x.2] 71) none
   have hc5 := one_cells wr (.int .i64 (xr : Int)) (.int .i64 x.2) 71
   obtain ⟨U, hU⟩ : ∃ z, wr.alloc (.cells #[.int .i64 (xr : Int), .int .i64 x.2] 71) = z := ⟨_, rfl⟩
   rw [hU] at g5 hc5 ⊢
   obtain ⟨bx, hbx⟩ : ∃ z, wr.heap.size = z := ⟨_, rfl⟩
   rw [hbx] at hc5 ⊢
   have hl5 := HI.out.2.laid g5
   have HX14 := hid (show SafeJ p bm U bx ∧ U.cell? ⟨bx, 0, none⟩ = some (.int .i64 (xr : Int)) ∧ U.cell? ⟨bx, 1, none⟩ = some (.int .i64 x.2) from ⟨hl5.2.2 bx (by omega) (lies_lt hc5.2.1), hc5.2.1, hc5.2.2.1⟩)
   have HJU := hid (show JL W5 p q s bm gs gE tE (n : Int) (rest : Int) total (jRow (n : Int) (rest : Int) x (b.drop 0) ++ jPairs (n : Int) (rest : Int) (a.drop (i + 1)) b) (i * nb + 0) U from by
    have h := hl5.1
    rw [jpairs_drop HXX.out] at h
    exact h)
   have y2' := g5.cell y2 (by simp)
   clear hU hbx g5 hc5 x0 x1 y2 hxr hl5
   go_wp2_with fail
   clear y2' f1 f2 hj0 hj1
   go_loopg [43] nb (fun gk s43 wr => ∃ jy : Nat, s43 = .int .i64 (jy : Int) ∧ gk = nb - jy ∧ jy ≤ nb ∧ JL W5 p q s bm gs gE tE (n : Int) (rest : Int) total (jRow (n : Int) (rest : Int) x (b.drop jy) ++ jPairs (n : Int) (rest : Int) (a.drop (i + 1)) b) (i * nb + jy) wr ∧ SafeJ p bm wr bx ∧ wr.cell? ⟨bx, 0, none⟩ = some (.int .i64 (xr : Int)) ∧ wr.cell? ⟨bx, 1, none⟩ = some (.int .i64 x.2))
   case atStart => exact ⟨0, rfl, rfl, Nat.zero_le _, HJU.out, HX14.out⟩
   case round =>
    obtain ⟨jy, rfl, hgj, hj, hjl, hsx, hx0, hx1⟩ := hrel
    have HK := hid (And.intro hgj (And.intro hjl hsx))
    clear hgj hjl hsx
    by_cases hjn : jy < nb
    ·
     have f1 : decide (jy < nb) = true := decide_eq_true hjn
     have f2 : decide ((jy : Int) < (nb : Int)) = true := decide_eq_true (by omega)
     have hj0 : (0 : Int) ≤ (jy : Int) := by omega
     have hj1 : (jy : Int) < (nb : Int) := by omega
     obtain ⟨y, hy⟩ : ∃ r, b[jy]? = some r := ⟨_, List.getElem?_eq_getElem (by rw [HN.out.2.2]; exact hjn)⟩
     obtain ⟨bb, ob, rfl, y0, y1⟩ := (HC.out.2.2.grown (gT HB.out.g HK.out.2.1.grown)).at hy
     have hry := HRG.out.2.1 y (List.mem_of_getElem? hy)
     obtain ⟨yr, hyr⟩ : ∃ z : Nat, y.1 = (z : Int) := ⟨y.1.toNat, by omega⟩
     have HYR := hid (And.intro hyr (show yr ≤ 10000 by omega))
     have HYY := hid hy
     clear hy hry
     rw [hyr] at y0
     clear hyr
     go_upto_region 11 with fail
     have g6 := gAl wr (.cells #[.int .i64 (yr : Int), .int .i64 y.2] 71) none
     have hc6 := one_cells wr (.int .i64 (yr : Int)) (.int .i64 y.2) 71
     obtain ⟨Y, hY⟩ : ∃ z, wr.alloc (.cells #[.int .i64 (yr : Int), .int .i64 y.2] 71) = z := ⟨_, rfl⟩
     rw [hY] at g6 hc6 ⊢
     obtain ⟨bY, hbY⟩ : ∃ z, wr.heap.size = z := ⟨_, rfl⟩
     rw [hbY] at hc6 ⊢
     have hl6 := HK.out.2.1.laid g6
     have HSY := hid (show SafeJ p bm Y bY ∧ SafeJ p bm Y bx from ⟨hl6.2.2 bY (by omega) (lies_lt hc6.2.1), (hl6.2.1 bx HK.out.2.2).2⟩)
     have HJY := hid hl6.1
     have z0 := hl6.2.1.cellJ HK.out.2.2 hx0
     have z1 := hl6.2.1.cellJ HK.out.2.2 hx1
     have z2 := hc6.2.1
     have z3 := hc6.2.2.1
     have z4 := HJY.out.cells.1
     have z5 := HJY.out.cells.2.1
     obtain ⟨a1, ha1⟩ : ∃ z, xr % n = z := ⟨_, rfl⟩
     obtain ⟨a2, ha2⟩ : ∃ z, yr / rest = z := ⟨_, rfl⟩
     have hm1 : (xr : Int).tmod (n : Int) = (a1 : Int) := by rw [Int.tmod_eq_emod_of_nonneg (by omega), ← ha1]; rfl
     have e2 : (yr : Int) / (rest : Int) = (a2 : Int) := by rw [← ha2]; rfl
     have ha2' : a2 ≤ 10000 := by rw [← ha2]; exact Nat.le_trans (Nat.div_le_self _ _) HYR.out.2
     have hw2 : IntKind.i64.wrap (a2 : Int) = (a2 : Int) := IntWalk.i64_in _ (by omega)
     have hn0 : n ≠ 0 := by omega
     have hr0 : rest ≠ 0 := by have := HRS.out; omega
     clear hY hbY g6 hc6 hl6 hx0 hx1 y0 y1
     by_cases hmt : a1 = a2
     ·
      go_quiet (fail)
      obtain ⟨Z, hZ⟩ : ∃ z, Y.drewN nq = z := ⟨_, rfl⟩
      have hgZ : Y.grownBy Z none := by rw [← hZ]; exact grown_drewN Y nq none
      rw [hZ]
      have hlZ := HJY.out.laid hgZ
      have HSZ := hid (And.intro (hlZ.2.1 bY HSY.out.1).2 (hlZ.2.1 bx HSY.out.2).2)
      obtain ⟨g, T, t, m, hst, hrun, ⟨hG, hpx, hgl, hmN⟩, hT, hok, htot⟩ := hlZ.1.ex
      have c0 := hgZ.cell z0 (by simp)
      have c1 := hgZ.cell z1 (by simp)
      have c2 := hgZ.cell z2 (by simp)
      have c3 := hgZ.cell z3 (by simp)
      have hk1 : IntKind.i64.wrap ((jy : Int) + 1) = ((jy + 1 : Nat) : Int) := by rw [IntWalk.i64_in _ (by have := HL.out; omega)]; omega
      have HCC := hid (And.intro c0 (And.intro c1 (And.intro c2 c3)))
      have HQQ := hid (And.intro hst.safe_s hst.safe_q)
      have hyes : x.1 % (n : Int) = y.1 / (rest : Int) := by rw [HXR.out.1, HYR.out.1, e2, ← hmt, ← ha1]; rfl
      rw [jdrop_yes _ HYY.out hyes] at hrun
      have HRUN := hid hrun
      have HTT := hid (And.intro hT (And.intro hok htot))
      have HGD := hid (And.intro hG hpx)
      have hbd := jp_lt hin hjn
      have HBD := hid (show g.length ≤ gs.length + 2 * (i * nb + jy) ∧ gs.length + 2 * (i * nb + jy) + 2 ≤ 960 ∧ m ≤ i * nb + jy from by have h1 := HN.out.1; have h2 := HL.out.1; rw [← h1] at h2; omega)
      have hox : Ok g x.2 := by have h1 := ((HGM.out.2.1.grow hpx).2 x (List.mem_of_getElem? HXX.out)).1; exact h1
      have hoy : Ok g y.2 := by have h1 := ((HGM.out.2.2.grow hpx).2 y (List.mem_of_getElem? HYY.out)).1; exact h1
      obtain ⟨V0, hV0⟩ : ∃ z, xr / n * rest + yr % rest = z := ⟨_, rfl⟩
      have hjr := jr_nat (n := n) (rest := rest) HXR.out.1 HYR.out.1
      rw [hV0] at hjr
      have hin2 : (x, y) ∈ jPairs (n : Int) (rest : Int) a b := List.mem_filter.2 ⟨List.mem_flatMap.2 ⟨x, List.mem_of_getElem? HXX.out, List.mem_map.2 ⟨y, List.mem_of_getElem? HYY.out, rfl⟩⟩, by simp [hyes]⟩
      have hrk := HRG.out.2.2 _ hin2
      rw [hjr] at hrk
      have HRK := hid (And.intro hjr hrk)
      obtain ⟨qq, hqq⟩ : ∃ z, andC g x.2 y.2 = z := ⟨_, rfl⟩
      obtain ⟨g1, u⟩ := qq
      have h1 := step_and HGD.out.1 x.2 y.2
      have h2 := and_ok HGD.out.1 (by have := HBD.out; omega) hox hoy
      have h3 := @and_len g x.2 y.2
      rw [hqq] at h1 h2 h3
      have h3' : g1.length ≤ g.length + 1 := h3
      have ht1 : Ok g1 (t (V0 : Int)) := by have h9 := h1.pre.length_le; have h8 := HTT.out.2.1 (V0 : Int); unfold Ok at h8 ⊢; simp only at h9; omega
      obtain ⟨qr, hqr⟩ : ∃ z, orC g1 (t (V0 : Int)) u = z := ⟨_, rfl⟩
      obtain ⟨g2, t2⟩ := qr
      have h4 := step_or h1.good (t (V0 : Int)) u
      have h5 := or_ok h1.good (by have := HBD.out; omega) ht1 h2
      have h6 := @or_len g1 (t (V0 : Int)) u
      rw [hqr] at h4 h5 h6
      have h6' : g2.length ≤ g1.length + 1 := h6
      have HNX := hid (show Good g2 ∧ Ok g2 t2 ∧ g <+: g2 ∧ g2.length ≤ g.length + 2 from ⟨h4.good, h5, h1.pre.trans h4.pre, by omega⟩)
      have HQ1 := hid hqq
      have HQ2 := hid hqr
      have HG1' := hid (show Good g1 ∧ g1.length ≤ 990 from ⟨h1.good, by have := HBD.out; omega⟩)
      have HTL := hid (show t (V0 : Int) ≤ 9223372036854775807 ∧ u ≤ 9223372036854775807 ∧ 0 ≤ u ∧ t2 ≤ 9223372036854775807 ∧ 0 ≤ t2 from by have h8 : Ok g1 u := h2; have h9 : Ok g2 t2 := h5; unfold Ok at ht1 h8 h9; have := HBD.out; omega)
      obtain ⟨hi0, hgx⟩ := hst.gx
      have HGXZ := hid hgx
      have HST := hid hst
      have hqs := hst.s0
      have hqq0 := hst.q0
      clear hZ hgZ hlZ hst hrun hG hpx hgl hmN hT hok htot z0 z1 z2 z3 z4 z5 hyes hbd hox hoy hjr hin2 hrk hqq hqr h1 h2 h3 h3' h4 h5 h6 h6' ht1 hgx hm1 e2 hw2
      go_wp2_with fail
      clear c0 c2
      refine wp_onlyN ?_
      have HS := hid (fun (Wh : World) (hWh : Off (OwnC p Z) Z Wh) => (⟨hWh, hWh.cell HST.out.s0 HQQ.out.1.2.1, hWh.cell HST.out.q0 HQQ.out.2.2.1, hWh.cell HCC.out.2.1 HSZ.out.2.2.1, hWh.cell HCC.out.2.2.2 HSZ.out.1.2.1⟩ : (fun Wh : World => Off (OwnC p Z) Z Wh ∧ Wh.cell? ⟨s, 0, none⟩ = some (.pointer (some ⟨q, 0, none⟩)) ∧ Wh.cell? ⟨q, 0, none⟩ = some (.pointer (some ⟨p, 0, none⟩)) ∧ Wh.cell? ⟨bx, 1, none⟩ = some (.int .i64 x.2) ∧ Wh.cell? ⟨bY, 1, none⟩ = some (.int .i64 y.2)) Wh))
      have hdr : Off (OwnC p Z) Z Z.drew := Off.of (show Z.grownBy Z.drew none from ⟨rfl, rfl, rfl, Nat.le_refl _, fun _ _ _ => rfl⟩) (fun k e => by cases e)
      refine wp_region_held_drew (S := (fun Wh : World => Off (OwnC p Z) Z Wh ∧ Wh.cell? ⟨s, 0, none⟩ = some (.pointer (some ⟨q, 0, none⟩)) ∧ Wh.cell? ⟨q, 0, none⟩ = some (.pointer (some ⟨p, 0, none⟩)) ∧ Wh.cell? ⟨bx, 1, none⟩ = some (.int .i64 x.2) ∧ Wh.cell? ⟨bY, 1, none⟩ = some (.int .i64 y.2))) (by kernel_rfl) (HS.out _ hdr) (fun hH => ?_)
      refine tq 0 ({ dst := some 56, op := Op.move (Operand.tmp 10), type := 93, pos := "matrix.go:115", after := #[], guard := none }) ?_ ?_ hH ?_
      rotate_left 1
      · (intro W h; (try dsimp only at h); go_simp <;> with_reducible rfl)
      try simp only [Act.put, sA, sB, sC]
      refine tq 1 ({ dst := some 57, op := Op.nilCheck (Operand.tmp 56), type := 0, pos := "matrix.go:115", after := #[{ on := 0, ground := Ground.data }], guard := none }) ?_ ?_ hH ?_
      rotate_left 1
      · (intro W h; (try dsimp only at h); go_simp <;> with_reducible rfl)
      try simp only [Act.put, sA, sB, sC]
      refine tq 2 ({ dst := some 58, op := Op.fieldAddr 97 (Operand.tmp 57) 0, type := 0, pos := "matrix.go:115", after := #[{ on := 1, ground := Ground.data }], guard := none }) ?_ ?_ hH ?_
      rotate_left 1
      · (intro W h; (try dsimp only at h); go_simp <;> with_reducible rfl)
      try simp only [Act.put, sA, sB, sC]
      refine tq 3 ({ dst := some 59, op := Op.load 77 (Operand.tmp 58), type := 77, pos := "matrix.go:115", after := #[{ on := 2, ground := Ground.data }], guard := none }) ?_ ?_ hH ?_
      rotate_left 1
      · (intro W h; (try dsimp only at h); go_simp <;> with_reducible rfl)
      try simp only [Act.put, sA, sB, sC]
      refine tq 4 ({ dst := some 60, op := Op.nilCheck (Operand.tmp 59), type := 0, pos := "matrix.go:115", after := #[{ on := 3, ground := Ground.data }], guard := none }) ?_ ?_ hH ?_
      rotate_left 1
      · (intro W h; (try dsimp only at h); go_simp <;> with_reducible rfl)
      try simp only [Act.put, sA, sB, sC]
      refine tq 5 ({ dst := some 61, op := Op.fieldAddr 88 (Operand.tmp 60) 0, type := 0, pos := "matrix.go:115", after := #[{ on := 4, ground := Ground.data }], guard := none }) ?_ ?_ hH ?_
      rotate_left 1
      · (intro W h; (try dsimp only at h); go_simp <;> with_reducible rfl)
      try simp only [Act.put, sA, sB, sC]
      refine tq 6 ({ dst := some 62, op := Op.load 86 (Operand.tmp 61), type := 86, pos := "matrix.go:115", after := #[{ on := 5, ground := Ground.data }], guard := none }) ?_ ?_ hH ?_
      rotate_left 1
      · (intro W h; (try dsimp only at h); go_simp <;> with_reducible rfl)
      try simp only [Act.put, sA, sB, sC]
      refine tq 7 ({ dst := some 63, op := Op.fieldAddr 71 (Operand.tmp 14) 1, type := 0, pos := "matrix.go:115", after := #[], guard := none }) ?_ ?_ hH ?_
      rotate_left 1
      · (intro W h; (try dsimp only at h); go_simp <;> with_reducible rfl)
      try simp only [Act.put, sA, sB, sC]
      refine tq 8 ({ dst := some 64, op := Op.load 3 (Operand.tmp 63), type := 3, pos := "matrix.go:115", after := #[{ on := 7, ground := Ground.data }], guard := none }) ?_ ?_ hH ?_
      rotate_left 1
      · (intro W h; (try dsimp only at h); go_simp <;> with_reducible rfl)
      try simp only [Act.put, sA, sB, sC]
      refine tq 9 ({ dst := some 65, op := Op.fieldAddr 71 (Operand.tmp 16) 1, type := 0, pos := "matrix.go:115", after := #[], guard := none }) ?_ ?_ hH ?_
      rotate_left 1
      · (intro W h; (try dsimp only at h); go_simp <;> with_reducible rfl)
      try simp only [Act.put, sA, sB, sC]
      refine tq 10 ({ dst := some 66, op := Op.load 3 (Operand.tmp 65), type := 3, pos := "matrix.go:115", after := #[{ on := 9, ground := Ground.data }], guard := none }) ?_ ?_ hH ?_
      rotate_left 1
      · (intro W h; (try dsimp only at h); go_simp <;> with_reducible rfl)
      try simp only [Act.put, sA, sB, sC]
      refine wpAnyH_ready (rs := [11]) (by kernel_rfl) (by simp) ?_
      refine (AllReadyH.cons (o := { dst := some 67, op := Op.call { callee := Callee.value (Operand.func 81), args := #[Operand.tmp 62, Operand.tmp 64, Operand.tmp 66], argTypes := #[86, 3, 3] }, type := 3, pos := "matrix.go:115", after := #[{ on := 6, ground := Ground.data }, { on := 8, ground := Ground.data }, { on := 10, ground := Ground.data }], guard := none }) rfl (fun K hK => ?_) AllReadyH.nil)
      rw [if_pos (by rfl)]
      go_simp
      go_at_call 81
      refine (gand_c g x.2 y.2 p g1 u HQ1.out HGD.out.1 (by have := HBD.out; omega) (OwnC p Z) (World.drew Z) hi0 (HGXZ.out.grown (⟨rfl, rfl, rfl, Nat.le_refl _, fun _ _ _ => rfl⟩ : Z.grownBy Z.drew none))).mono ?_
      rintro e wA ⟨rfl, hiA, hu, hoA⟩
      have hvA := hdr.trans hoA (fun _ _ e => e)
      go_wp2_with fail
      refine hK.out _ _ (HS.out _ hvA) (fun hH => ?_)
      clear hK K
      try simp only [Act.put, sA, sB, sC]
      refine tq 12 ({ dst := some 17, op := Op.assign (Operand.tmp 67), type := 3, pos := "matrix.go:115", after := #[{ on := 11, ground := Ground.data }, { on := 11, ground := Ground.chain }, { on := 0, ground := Ground.phase }, { on := 1, ground := Ground.phase }, { on := 2, ground := Ground.phase }, { on := 3, ground := Ground.phase }, { on := 4, ground := Ground.phase }, { on := 5, ground := Ground.phase }, { on := 6, ground := Ground.phase }, { on := 7, ground := Ground.phase }, { on := 8, ground := Ground.phase }, { on := 9, ground := Ground.phase }, { on := 10, ground := Ground.phase }, { on := 11, ground := Ground.phase }], guard := none }) ?_ ?_ hH ?_
      rotate_left 1
      · (intro W h; (try dsimp only at h); go_simp <;> with_reducible rfl)
      try simp only [Act.put, sA, sB, sC]
      refine wpAnyH_done (by kernel_rfl) ?_ _
      have hEND := hvA
      clear hH
      simp only [onlyN]
      have hstA := HST.out.step hu hvA
      clear hvA hu hoA hEND hdr HS
      have HSTA := hid hstA.1
      have HSA := hid (show SafeJ p bm wA bY ∧ SafeJ p bm wA bx from ⟨(hstA.2 bY HSZ.out.1).2, (hstA.2 bx HSZ.out.2).2⟩)
      have d0 := hstA.2.cellJ HSZ.out.2 HCC.out.1
      have d1 := hstA.2.cellJ HSZ.out.2 HCC.out.2.1
      have d2 := hstA.2.cellJ HSZ.out.1 HCC.out.2.2.1
      have HDD := hid (And.intro d0 d1)
      obtain ⟨q1, hq1⟩ : ∃ z, xr / n = z := ⟨_, rfl⟩
      obtain ⟨q2, hq2⟩ : ∃ z, yr % rest = z := ⟨_, rfl⟩
      obtain ⟨P1, hP1⟩ : ∃ z, q1 * rest = z := ⟨_, rfl⟩
      have f3 : (xr : Int) / (n : Int) = (q1 : Int) := by rw [← hq1]; rfl
      have hm2 : (yr : Int).tmod (rest : Int) = (q2 : Int) := by rw [Int.tmod_eq_emod_of_nonneg (by omega), ← hq2]; rfl
      have hq1' : q1 ≤ 10000 := by rw [← hq1]; exact Nat.le_trans (Nat.div_le_self _ _) HXR.out.2
      have hq2' : q2 ≤ 10000 := by rw [← hq2]; exact Nat.le_trans (Nat.mod_le _ _) HYR.out.2
      have hP1' : P1 ≤ 10000 * 16 := by rw [← hP1]; exact Nat.mul_le_mul hq1' HRS.out.2
      rw [hq1, hq2, hP1] at hV0
      have hw3 : IntKind.i64.wrap (q1 : Int) = (q1 : Int) := IntWalk.i64_in _ (by omega)
      have hw4 : IntKind.i64.wrap ((q1 : Int) * (rest : Int)) = (P1 : Int) := by rw [show (q1 : Int) * (rest : Int) = (P1 : Int) by rw [← hP1]; simp]; exact IntWalk.i64_in _ (by omega)
      have hw5 : IntKind.i64.wrap ((P1 : Int) + (q2 : Int)) = (V0 : Int) := by rw [IntWalk.i64_in _ (by omega)]; omega
      clear hH hstA hq1 hq2 hP1 hqs hqq0 c1 c3
      go_wp2_with fail
      go_quiet (fail)
      obtain ⟨Z2, hZ2⟩ : ∃ z, wA.drewN nq = z := ⟨_, rfl⟩
      have hgZ2 : wA.grownBy Z2 none := by rw [← hZ2]; exact grown_drewN wA nq none
      rw [hZ2]
      have hlZ2 := HSTA.out.laid hgZ2
      have hst2 := hlZ2.1
      have HSB := hid (show SafeJ p bm Z2 bY ∧ SafeJ p bm Z2 bx from ⟨(hlZ2.2.1 bY HSA.out.1).2, (hlZ2.2.1 bx HSA.out.2).2⟩)
      have HEE := hid (And.intro (hgZ2.cell HDD.out.1 (by simp)) (hgZ2.cell HDD.out.2 (by simp)))
      have hwV : wfK (V0 : Int) := wfK_small (by omega) (by omega)
      obtain ⟨cv, hlk, hcv⟩ := hst2.mp.look hwV
      have e0 := hst2.s0
      have e1 := hst2.q0
      have HST2 := hid hst2
      obtain ⟨hi2, hgx2⟩ := hst2.gx
      have HGX2 := hid hgx2
      have HCV := hid hcv
      have HWV := hid hwV
      clear d0 d1 d2 f3 hm2 hq1' hq2' hP1' hw3 hw4 hw5 hZ2 hgZ2 hlZ2 hst2 hgx2 hwV hcv
      have HNT := hid (And.intro (show T (V0 : Int) = false → t (V0 : Int) = 1 from HTT.out.1 _) HQ2.out)
      cases hTv : T (V0 : Int) with
      | false =>
       rw [hTv] at hlk
       have ht1 : t (V0 : Int) = 1 := HNT.out.1 hTv
       go_wp2_with fail
       refine (gor_c g1 1 u p g2 t2 (by rw [← ht1]; exact HQ2.out) HG1'.out.1 HG1'.out.2 (by decide) HTL.out.2.1 (OwnC p Z2) Z2 hi2 HGX2.out).mono ?_
       rintro e wO ⟨rfl, hiO, hv, hoO⟩
       have hsO := HST2.out.step hv hoO
       have HSO := hid (And.intro (hsO.2 bY HSB.out.1).2 (hsO.2 bx HSB.out.2).2)
       have HO := hid (And.intro (hsO.2.cellJ HSB.out.2 HEE.out.1) (hsO.2.cellJ HSB.out.2 HEE.out.2))
       obtain ⟨Y3, hstr, hm3, hg3⟩ := hsO.1.mp.store (by have := HBD.out; omega) HWV.out (wfK_small HTL.out.2.2.2.2 HTL.out.2.2.2.1)
       have HP := hid (JL.put hsO.1 hm3 hg3 HRUN.out HRK.out.1 HQ1.out HQ2.out HGD.out.1 HNX.out.1 HGD.out.2 HNX.out.2.2.1 HBD.out.1 HNX.out.2.2.2 HBD.out.2.2 HTT.out.1 HTT.out.2.1 HNX.out.2.1 HTT.out.2.2 HRK.out.2)
       clear hv hoO hsO hm3 hg3 e0 e1 hlk
       go_wp2_with fail
       go_roundg (nb - (jy + 1))
       case measure => rw [HK.out.1]; omega
       case rel => exact ⟨jy + 1, rfl, rfl, by omega, HP.out.1, (HP.out.2 bx HSO.out.2).2, HP.out.2.cellJ HSO.out.2 HO.out.1, HP.out.2.cellJ HSO.out.2 HO.out.2⟩
      | true =>
       rw [hTv] at hlk
       have hct := HCV.out hTv
       subst hct
       go_wp2_with fail
       refine (gor_c g1 (t (V0 : Int)) u p g2 t2 HQ2.out HG1'.out.1 HG1'.out.2 HTL.out.1 HTL.out.2.1 (OwnC p Z2) Z2 hi2 HGX2.out).mono ?_
       rintro e wO ⟨rfl, hiO, hv, hoO⟩
       have hsO := HST2.out.step hv hoO
       have HSO := hid (And.intro (hsO.2 bY HSB.out.1).2 (hsO.2 bx HSB.out.2).2)
       have HO := hid (And.intro (hsO.2.cellJ HSB.out.2 HEE.out.1) (hsO.2.cellJ HSB.out.2 HEE.out.2))
       obtain ⟨Y3, hstr, hm3, hg3⟩ := hsO.1.mp.store (by have := HBD.out; omega) HWV.out (wfK_small HTL.out.2.2.2.2 HTL.out.2.2.2.1)
       have HP := hid (JL.put hsO.1 hm3 hg3 HRUN.out HRK.out.1 HQ1.out HQ2.out HGD.out.1 HNX.out.1 HGD.out.2 HNX.out.2.2.1 HBD.out.1 HNX.out.2.2.2 HBD.out.2.2 HTT.out.1 HTT.out.2.1 HNX.out.2.1 HTT.out.2.2 HRK.out.2)
       clear hv hoO hsO hm3 hg3 e0 e1 hlk
       go_wp2_with fail
       go_roundg (nb - (jy + 1))
       case measure => rw [HK.out.1]; omega
       case rel => exact ⟨jy + 1, rfl, rfl, by omega, HP.out.1, (HP.out.2 bx HSO.out.2).2, HP.out.2.cellJ HSO.out.2 HO.out.1, HP.out.2.cellJ HSO.out.2 HO.out.2⟩
     ·
      go_quiet (fail)
      obtain ⟨Z, hZ⟩ : ∃ z, Y.drewN nq = z := ⟨_, rfl⟩
      have hgZ : Y.grownBy Z none := by rw [← hZ]; exact grown_drewN Y nq none
      rw [hZ]
      have hlZ := HJY.out.laid hgZ
      have hk1 : IntKind.i64.wrap ((jy : Int) + 1) = ((jy + 1 : Nat) : Int) := by rw [IntWalk.i64_in _ (by have := HL.out; omega)]; omega
      have hno : ¬ x.1 % (n : Int) = y.1 / (rest : Int) := by
       rw [HXR.out.1, HYR.out.1, e2, show (xr : Int) % (n : Int) = (a1 : Int) from by rw [← ha1]; rfl]
       omega
      have HP := hid (hlZ.1.skip HYY.out hno)
      have HO := hid (show SafeJ p bm Z bx ∧ Z.cell? ⟨bx, 0, none⟩ = some (.int .i64 (xr : Int)) ∧ Z.cell? ⟨bx, 1, none⟩ = some (.int .i64 x.2) from ⟨(hlZ.2.1 bx HSY.out.2).2, hgZ.cell z0 (by simp), hgZ.cell z1 (by simp)⟩)
      clear hZ hgZ hlZ hno z0 z1 z2 z3 z4 z5
      go_wp2_with fail
      go_roundg (nb - (jy + 1))
      case measure => rw [HK.out.1]; omega
      case rel => exact ⟨jy + 1, rfl, rfl, by omega, HP.out, HO.out⟩
    ·
     have f1 : decide (jy < nb) = false := decide_eq_false hjn
     have f2 : decide ((jy : Int) < (nb : Int)) = false := decide_eq_false (by omega)
     have hjn2 : jy = nb := by omega
     subst hjn2
     have HP := hid (show JL W5 p q s bm gs gE tE (n : Int) (rest : Int) total (jPairs (n : Int) (rest : Int) (a.drop (i + 1)) b) ((i + 1) * jy) wr from by
      have h := HK.out.2.1
      rw [List.drop_of_length_le (by rw [HN.out.2.2]; omega), jRow_nil, List.nil_append] at h
      exact h.more (by rw [Nat.add_mul]; omega))
     have hk1 : IntKind.i64.wrap ((i : Int) + 1) = ((i + 1 : Nat) : Int) := by rw [IntWalk.i64_in _ (by have := HL.out; omega)]; omega
     clear hjn hx0 hx1
     go_wp2_with fail
     go_roundg (na - (i + 1))
     case measure => rw [HI.out.1]; omega
     case rel => exact ⟨i + 1, rfl, rfl, by omega, HP.out⟩
  ·
   have f1 : decide (i < na) = false := decide_eq_false hin
   have f2 : decide ((i : Int) < (na : Int)) = false := decide_eq_false (by omega)
   have hin2 : i = na := by omega
   obtain ⟨g, T, t, m, hst, hrun, ⟨hG, hpx, hgl, hmN⟩, hT, hok, htot⟩ := HI.out.2.ex
   rw [List.drop_of_length_le (by rw [HN.out.2.1]; omega), jPairs_nil, run_foldP_nil] at hrun
   injection hrun with e1 e2
   subst e1 e2
   have HGG := hid (And.intro hG hgl)
   have HTT := hid (And.intro hT (And.intro hok htot))
   have HM := hid (show m ≤ 480 from by rw [hin2] at hmN; have := HL.out.1; omega)
   have y0 := hst.grown.cell HB.out.a0 (by simp)
   have y1 := hst.grown.cell HB.out.b0 (by simp)
   have y2 := hst.grown.cell HB.out.s0 (by simp)
   have hr8 := Rc.step (M := fun _ => False) (show Rc W5 (w.heap.size + 3) 0 (.slice none 0 0) from ⟨HB.out.r, HB.out.rf⟩) (Off.of hst.grown (fun k e => by cases e)) (fun e => e)
   have hr9 := Rc.step (M := fun _ => False) (show Rc W5 (w.heap.size + 4) 0 (.int .i64 0) from ⟨HB.out.s0, HB.out.sf0⟩) (Off.of hst.grown (fun k e => by cases e)) (fun e => e)
   have hr9b := Rc.step (M := fun _ => False) (show Rc W5 (w.heap.size + 4) 1 (.slice none 0 0) from ⟨HB.out.s1, HB.out.sf1⟩) (Off.of hst.grown (fun k e => by cases e)) (fun e => e)
   have hty := HB.out.ty.grown hst.grown (by simp)
   have yf := hr9.2
   have HR8 := hid hr8
   have HR9 := hid (And.intro hr9 (And.intro hr9b hty))
   have HST := hid hst
   have hwa : IntKind.i64.wrap ((k : Int) + (j : Int)) = (k : Int) + (j : Int) := IntWalk.i64_in _ (by have := HNK.out; omega)
   have hwb : IntKind.i64.wrap ((k : Int) + (j : Int) - 2) = (k : Int) + (j : Int) - 2 := IntWalk.i64_in _ (by have := HNK.out; omega)
   clear hst hG hpx hgl hmN hT hok htot hin hin2 hr8 hr9 hr9b hty
   go_upto_region 21 with fail
   obtain ⟨tb, htb⟩ : ∃ z, w.heap.size + 4 = z := ⟨_, rfl⟩
   have HTB := hid htb
   have hgs := grown_set wr tb 0 (.int .i64 ((k : Int) + (j : Int) - 2))
   have htbp : tb < p := by have := HWB.out; omega
   obtain ⟨hi0, hgx⟩ := HST.out.gx
   have hpb := hgx.p_lt
   have hbb := HST.out.mp.lt
   have hnt : ¬ OwnC p wr tb := fun e => by have := (hgx.own_lt e).1; omega
   have hmB : ∀ x, OwnC p wr x → x < wr.heap.size := fun x e => (hgx.own_lt e).2
   have r9 := HR9.out
   rw [htb] at r9
   have hgx6 := hgx.setTy (o := 0) (v := .int .i64 ((k : Int) + (j : Int) - 2)) hnt r9.2.2
   have hmp6 := HST.out.mp.kept hgs (fun e => by injection e with e; have := HST.out.low; omega)
   have hty6 := r9.2.2.set 0 (.int .i64 ((k : Int) + (j : Int) - 2))
   have hc06 := r9.1.set (.int .i64 ((k : Int) + (j : Int) - 2))
   have hc16 := r9.2.1.other (show (0 : Nat) ≠ 1 by decide) (.int .i64 ((k : Int) + (j : Int) - 2))
   have hof6 : Off (fun k => k = tb) wr (wr.setCell ⟨tb, 0, none⟩ (.int .i64 ((k : Int) + (j : Int) - 2))) := off_set wr tb 0 _
   have e4 : (⟨w.heap.size + 1 + 1 + 1 + 1, 0, none⟩ : Addr) = ⟨tb, 0, none⟩ := by rw [← htb]
   rw [e4]
   obtain ⟨W6, hW6⟩ : ∃ z, wr.setCell ⟨tb, 0, none⟩ (.int .i64 ((k : Int) + (j : Int) - 2)) = z := ⟨_, rfl⟩
   rw [hW6] at hgs hgx6 hmp6 hty6 hc06 hc16 hof6 ⊢
   have HOF6 := hid hof6
   have hs6 : wr.heap.size ≤ W6.heap.size := hof6.size
   obtain ⟨D, hown, hk⟩ := hmp6
   have HOW := hid hown
   have HKD := hid hk
   have HF6 := hid (show tb < p ∧ p < wr.heap.size ∧ bm < wr.heap.size ∧ ¬ OwnC p wr tb ∧ (∀ x, OwnC p wr x → x < wr.heap.size) ∧ wr.heap.size ≤ W6.heap.size from ⟨htbp, hpb, hbb, hnt, hmB, hs6⟩)
   have HG6 := hid (And.intro hgx6 (And.intro hty6 (And.intro hc06 hc16)))
   clear hW6 hgs htb htbp hgx hpb hbb hnt hmB r9 hgx6 hty6 hc06 hc16 hof6 hs6 hown hk y0 y1 y2 yf e4 hwa hwb
   go_wp2_with (first | (at_range; refine wpList_range_own _ rfl _ 102 rfl 3 3 keyed3 Try.underlying102 _ bm m D rfl HOW.out ?_; intro w0 hrg0 hg0 hs0) | fail)
   go_frame
   have HOF0 := hid (show Off (fun k => k = tb) wr w0 from HOF6.out.trans (Off.of hg0 (fun k e => by cases e)) (fun _ _ e => e))
   have hJR : JR w0 p bm W6.heap.size m tb (OwnC p wr) g T t D ((k : Int) + (j : Int) - 2) (Maps.has D) (Maps.size D) [] none 0 0 w0 := ⟨⟨by have := HF6.out; omega, by omega, fun e => by have h1 := HF6.out.2.2.2.2.1 _ e; have h2 := HF6.out.2.2.2.2.2; omega, HF6.out.2.2.2.1, by have := HF6.out; omega, by have h1 := HST.out.low; have := HF6.out; omega, by have := HF6.out; omega, by have := HF6.out; omega, fun x e => by have h1 := HF6.out.2.2.2.2.1 _ e; have h2 := HF6.out.2.2.2.2.2; omega, by have := HF6.out; omega⟩, hrg0, ⟨hi0, HG6.out.1.grown hg0⟩, ⟨rfl, rfl, rfl, Nat.le_refl _, fun _ _ _ => rfl⟩, HG6.out.2.1.grown hg0 (by simp), HG6.out.2.2.1.step (Off.of hg0 (M := fun _ => False) (fun k e => by cases e)) (fun e => e), HG6.out.2.2.2.step (Off.of hg0 (M := fun _ => False) (fun k e => by cases e)) (fun e => e), World.ownsRow_nil _ _ _ _, rfl, fun k x => ⟨fun h => (by cases h), fun h => (by have h1 := HTT.out.2.2 k h.1; have h2 := (HKD.out k (wfK_small h1.1 (by have := HTT0.out; omega))).1; rw [h.2.1, h.1] at h2; cases h2)⟩, by simp, by have := HOW.out.size_le; simp; exact this, fun k hw hk => by rw [(HKD.out k hw).1] at hk; exact hk⟩
   obtain ⟨MM, hMM⟩ : ∃ z, OwnC p wr = z := ⟨_, rfl⟩
   rw [hMM] at hJR HF6
   have HJR := hid hJR
   clear hJR hrg0 hg0 hs0
   obtain ⟨wz, rfl⟩ : ∃ z, z = wr := ⟨_, rfl⟩
   go_loopw [] (fun wr => ∃ (left : Lit → Bool) (cnt : Nat) (l : List Cl) (a : Option Addr) (n c : Nat), JR w0 p bm W6.heap.size m tb MM g T t D ((k : Int) + (j : Int) - 2) left cnt l a n c wr)
    (fun wr => wr.rangeLeft bm W6.heap.size)
   case atStart => exact ⟨_, _, [], none, 0, 0, HJR.out⟩
   case round =>
    obtain ⟨left, cnt, l, la, ln, lc, hJ⟩ := hrel
    have HJ := hid hJ
    have hm0 : wr.rangeLeft bm W6.heap.size = cnt := hJ.rg.left_eq
    go_wp2_with (first | (at_next; refine wpList_next_ranges_ii _ rfl _ rfl 3 3 .i64 .i64 keyed3 Try.underlying3 Try.underlying3 bm W6.heap.size m _ _ _ rfl hJ.rg ?_ ?_) | fail)
    ·
     intro hc0 hl0
     have HLZ := hid hl0
     have HSC := hid (msort_calls w0.heap.size l la ln lc wr hJ.row hJ.len (by have h1 := hJ.cnt; have h2 := hJ.len; have := HM.out; omega))
     have y0 := hJ.c1.1
     clear hl0 hc0 hm0 hJ
     go_wp2_with fail
     refine HSC.out.mono ?_
     rintro e w2 ⟨rfl, l', hpm, hso, hrow, hg2⟩
     have hl2 : l'.length = ln := by rw [hpm.length_eq]; exact HJ.out.len
     have hfx := HJ.out.fix
     have hrB : ∀ k, (Value.slice la ln lc).ownBlock = some k → w0.heap.size ≤ k := fun k e => (HJ.out.row.lt k e).1
     have hoB : Off (fun k => w0.heap.size ≤ k) wr w2 := Off.of hg2 hrB
     have hOZ : Off (fun k => k = tb) wz w2 := ((HOF0.out.trans HJ.out.off (fun k hk e => by rcases e with e | e; exact e; have h1 := HF6.out; omega)).trans hoB (fun k hk e => by have h1 := HOF0.out.size; omega))
     have hnb : ∀ x, x < w0.heap.size → ¬ w0.heap.size ≤ x := fun x h => by omega
     have htB := hfx.tB
     have HR0 := hid (And.intro (HJ.out.c0.step hoB (hnb tb htB)) (HJ.out.c1.step hoB (hnb tb htB)))
     obtain ⟨hi1, hgx⟩ := HJ.out.gx
     have hx := hgx.far hg2 (fun k e => ⟨by have h1 := hrB k e; have h2 := hfx.pB; omega, fun hm => by have h1 := hrB k e; have h2 := hfx.mB k hm; omega⟩)
     have hsz : s ≠ tb ∧ q ≠ tb := by have h1 := HWB.out; have h2 := HTB.out; omega
     have HSQ := hid (And.intro (hOZ.cell HST.out.s0 (fun e => hsz.1 e)) (hOZ.cell HST.out.q0 (fun e => hsz.2 e)))
     have r6 := HR8.out.step hOZ (fun e => by have e' : w.heap.size + 3 = tb := e; have h2 := HTB.out; omega)
     have HROW := hid (show Span w0.heap.size w2.heap.size w2 (fun W => CellsW W la lc l') from by have hrow2 := hrow; rw [← hl2] at hrow2; obtain ⟨a9, c9, e9, hs9⟩ := cells_span hrow2; cases e9; exact hs9)
     have HFG := hid (show w.grownBy w2.drew none from gT (hOZ.grown (gT HB.out.g HST.out.grown) (fun k e => by have e' : k = tb := e; have h2 := HTB.out; omega)) ⟨rfl, rfl, rfl, Nat.le_refl _, fun _ _ _ => rfl⟩)
     have HL' := hid (show l' = ofTabL t (ranksTo total) from tab_ext (sorted_up hso ((hpm.map _).nodup_iff.2 HJ.out.nd)) (ranksTo_up total) (fun k x => by
      rw [hpm.mem_iff, HJ.out.mem]
      constructor
      · exact fun h => h.2.2
      ·
       intro h
       refine ⟨?_, HLZ.out _, h⟩
       cases hTk : T k with
       | true => rfl
       | false => exact absurd (h.1.trans (HTT.out.1 k hTk)) h.2) HTI.out)
     obtain ⟨b6, hb6⟩ : ∃ z, w.heap.size + 3 = z := ⟨_, rfl⟩
     have HWC := hid (show w.heap.size ≤ b6 ∧ b6 < tb ∧ tb < p ∧ tb < q ∧ tb < s ∧ p ≠ q ∧ p ≠ s ∧ q ≠ s ∧ p < w0.heap.size ∧ tb < w0.heap.size from by have h1 := HWB.out; have h2 := HTB.out; have h3 := hfx.pB; omega)
     have HBD := hid (show g.length ≤ 1000 from by have h1 := HGG.out.2; have h2 := HL.out; have h3 := HN.out; have h4 : i * nb ≤ na * nb := Nat.mul_le_mul_right _ hi; omega)
     rw [hb6] at r6
     have e6 : w.heap.size + 1 + 1 + 1 = b6 := hb6
     have HL2 := hid hl2
     have z0 := HSQ.out.1
     have z1 := HSQ.out.2
     have z2 := HR0.out.1.1
     have z3 := HR0.out.2.1
     clear hpm hso hrow hg2 y0 hl2 hfx hrB hoB hOZ hnb htB hgx hsz HSC
     rw [e6]
     clear e6 hb6
     go_wp2_with fail
     clear z0 z1 z2 z3
     refine wp_onlyN ?_
     replace hx : GX p MM w2.drew g hi1 := hx.grown ⟨rfl, rfl, rfl, Nat.le_refl _, fun _ _ _ => rfl⟩
     replace r6 : Rc w2.drew b6 0 _ := r6
     have HS := hid (fun (Wh : World) (hWh : (FinA w w2 (fun k => k = s ∨ k = q) w0.heap.size la lc l' Wh ∧ Rc Wh tb 0 (.int .i64 ((k : Int) + (j : Int) - 2)) ∧ Rc Wh tb 1 (.slice la ln lc))) => (⟨(World.cell?_of_block (a := ⟨s, 0, none⟩) (hWh.1.kp s (.inl rfl) (lies_lt HSQ.out.1))).trans HSQ.out.1, (World.cell?_of_block (a := ⟨q, 0, none⟩) (hWh.1.kp q (.inr rfl) (lies_lt HSQ.out.2))).trans HSQ.out.2, hWh.2.1.1, hWh.2.2.1⟩ : (fun Wh : World => Wh.cell? ⟨s, 0, none⟩ = some (.pointer (some ⟨q, 0, none⟩)) ∧ Wh.cell? ⟨q, 0, none⟩ = some (.pointer (some ⟨p, 0, none⟩)) ∧ Wh.cell? ⟨tb, 0, none⟩ = some (.int .i64 ((k : Int) + (j : Int) - 2)) ∧ Wh.cell? ⟨tb, 1, none⟩ = some (.slice la ln lc)) Wh))
     have hdr : (fun Wh => (FinA w w2 (fun k => k = s ∨ k = q) w0.heap.size la lc l' Wh ∧ Rc Wh tb 0 (.int .i64 ((k : Int) + (j : Int) - 2)) ∧ Rc Wh tb 1 (.slice la ln lc))) w2.drew := ⟨⟨fun _ _ _ => rfl, HROW.out, HFG.out⟩, HR0.out⟩
     refine wp_region_held_drew (S := (fun Wh : World => Wh.cell? ⟨s, 0, none⟩ = some (.pointer (some ⟨q, 0, none⟩)) ∧ Wh.cell? ⟨q, 0, none⟩ = some (.pointer (some ⟨p, 0, none⟩)) ∧ Wh.cell? ⟨tb, 0, none⟩ = some (.int .i64 ((k : Int) + (j : Int) - 2)) ∧ Wh.cell? ⟨tb, 1, none⟩ = some (.slice la ln lc))) (by kernel_rfl) (HS.out _ hdr) (fun hH => ?_)
     refine tq 0 ({ dst := some 124, op := Op.move (Operand.tmp 10), type := 93, pos := "matrix.go:129", after := #[], guard := none }) ?_ ?_ hH ?_
     rotate_left 1
     · (intro W h; (try dsimp only at h); go_simp <;> with_reducible rfl)
     try simp only [Act.put, sA, sB, sC]
     refine tq 1 ({ dst := some 125, op := Op.nilCheck (Operand.tmp 124), type := 0, pos := "matrix.go:129", after := #[{ on := 0, ground := Ground.data }], guard := none }) ?_ ?_ hH ?_
     rotate_left 1
     · (intro W h; (try dsimp only at h); go_simp <;> with_reducible rfl)
     try simp only [Act.put, sA, sB, sC]
     refine tq 2 ({ dst := some 126, op := Op.fieldAddr 97 (Operand.tmp 125) 0, type := 0, pos := "matrix.go:129", after := #[{ on := 1, ground := Ground.data }], guard := none }) ?_ ?_ hH ?_
     rotate_left 1
     · (intro W h; (try dsimp only at h); go_simp <;> with_reducible rfl)
     try simp only [Act.put, sA, sB, sC]
     refine tq 3 ({ dst := some 127, op := Op.load 77 (Operand.tmp 126), type := 77, pos := "matrix.go:129", after := #[{ on := 2, ground := Ground.data }], guard := none }) ?_ ?_ hH ?_
     rotate_left 1
     · (intro W h; (try dsimp only at h); go_simp <;> with_reducible rfl)
     try simp only [Act.put, sA, sB, sC]
     refine tq 4 ({ dst := some 128, op := Op.nilCheck (Operand.tmp 127), type := 0, pos := "matrix.go:129", after := #[{ on := 3, ground := Ground.data }], guard := none }) ?_ ?_ hH ?_
     rotate_left 1
     · (intro W h; (try dsimp only at h); go_simp <;> with_reducible rfl)
     try simp only [Act.put, sA, sB, sC]
     refine tq 5 ({ dst := some 129, op := Op.fieldAddr 88 (Operand.tmp 128) 0, type := 0, pos := "matrix.go:129", after := #[{ on := 4, ground := Ground.data }], guard := none }) ?_ ?_ hH ?_
     rotate_left 1
     · (intro W h; (try dsimp only at h); go_simp <;> with_reducible rfl)
     try simp only [Act.put, sA, sB, sC]
     refine tq 6 ({ dst := some 130, op := Op.load 86 (Operand.tmp 129), type := 86, pos := "matrix.go:129", after := #[{ on := 5, ground := Ground.data }], guard := none }) ?_ ?_ hH ?_
     rotate_left 1
     · (intro W h; (try dsimp only at h); go_simp <;> with_reducible rfl)
     try simp only [Act.put, sA, sB, sC]
     refine tq 8 ({ dst := some 132, op := Op.load 26 (Operand.tmp 9), type := 26, pos := "matrix.go:129", after := #[], guard := none }) ?_ ?_ hH ?_
     rotate_left 1
     · (intro W h; (try dsimp only at h); go_simp <;> with_reducible rfl)
     try simp only [Act.put, sA, sB, sC]
     refine wpAnyH_ready (rs := [7]) (by kernel_rfl) (by simp) ?_
     refine (AllReadyH.cons (o := { dst := some 131, op := Op.call { callee := Callee.value (Operand.func 76), args := #[Operand.tmp 130], argTypes := #[86] }, type := 30, pos := "matrix.go:129", after := #[{ on := 6, ground := Ground.data }], guard := none }) rfl (fun K hK => ?_) AllReadyH.nil)
     rw [if_pos (by rfl)]
     go_simp
     go_at_call 76
     refine (gcircuit_off g p MM _ hi1 hx HBD.out).mono ?_
     rintro e wM ⟨ca1, cc1, rfl, hsp, hof⟩
     have hf := And.intro (hdr.1.step hof (fun k e => by have e' : k = p := e; have := HWC.out; refine ⟨by omega, ?_, by omega⟩; rintro (h | h) <;> omega)) (And.intro (hdr.2.1.step hof (fun e => by have e' : tb = p := e; have := HWC.out; omega)) (hdr.2.2.step hof (fun e => by have e' : tb = p := e; have := HWC.out; omega)))
     replace r6 := r6.step hof (fun e => by have e' : b6 = p := e; have := HWC.out; omega)
     clear hof hx
     go_wp2_with fail
     refine hK.out _ _ (HS.out _ hf) (fun hH => ?_)
     clear hK K
     try simp only [Act.put, sA, sB, sC]
     refine wpAnyH_ready (rs := [9]) (by kernel_rfl) (by simp) ?_
     refine (AllReadyH.cons (o := { dst := none, op := Op.store 30 (Operand.tmp 8) (Operand.tmp 131), type := 0, pos := "matrix.go:129", after := #[{ on := 7, ground := Ground.data }, { on := 7, ground := Ground.chain }, { on := 0, ground := Ground.phase }, { on := 1, ground := Ground.phase }, { on := 2, ground := Ground.phase }, { on := 3, ground := Ground.phase }, { on := 4, ground := Ground.phase }, { on := 5, ground := Ground.phase }, { on := 6, ground := Ground.phase }, { on := 7, ground := Ground.phase }, { on := 8, ground := Ground.textOnly Departure.lateStoresUnsure }], guard := none }) rfl (fun K hK => ?_) AllReadyH.nil)
     rw [if_pos (by rfl)]
     have k1 := r6.1
     have kf := r6.2
     go_simp
     clear k1 kf
     have hof := off_set wM b6 0 (.slice ca1 g.length cc1)
     have hf6 := And.intro (hf.1.step hof (fun k e => by have e' : k = b6 := e; have := HWC.out; refine ⟨by omega, ?_, by omega⟩; rintro (h | h) <;> omega)) (And.intro (hf.2.1.step hof (fun e => by have e' : tb = b6 := e; have := HWC.out; omega)) (hf.2.2.step hof (fun e => by have e' : tb = b6 := e; have := HWC.out; omega)))
     replace r6 := r6.set (.slice ca1 g.length cc1)
     replace hsp := hsp.away hof (fun k e => by have e' : k = b6 := e; have := HWC.out; omega)
     clear hof
     refine hK.out _ _ (HS.out _ hf6) (fun hH => ?_)
     clear hK K
     try simp only [Act.put, sA, sB, sC]
     refine wpAnyH_ready (rs := [10]) (by kernel_rfl) (by simp) ?_
     refine (AllReadyH.cons (o := { dst := none, op := Op.store 26 (Operand.tmp 9) (Operand.tmp 132), type := 0, pos := "matrix.go:129", after := #[{ on := 8, ground := Ground.data }, { on := 9, ground := Ground.chain }, { on := 0, ground := Ground.phase }, { on := 1, ground := Ground.phase }, { on := 2, ground := Ground.phase }, { on := 3, ground := Ground.phase }, { on := 4, ground := Ground.phase }, { on := 5, ground := Ground.phase }, { on := 6, ground := Ground.phase }, { on := 7, ground := Ground.phase }, { on := 8, ground := Ground.phase }, { on := 9, ground := Ground.phase }], guard := none }) rfl (fun K hK => ?_) AllReadyH.nil)
     rw [if_pos (by rfl)]
     have k1 := hf6.2.1.1
     have kf := hf6.2.1.2
     have k2 := hf6.2.2.1
     have kg := hf6.2.2.2
     go_simp
     clear k1 kf k2 kg
     have hof := off_set2 (World.setCell wM ⟨b6, 0, none⟩ (.slice ca1 g.length cc1)) tb (.int .i64 ((k : Int) + (j : Int) - 2)) (.slice la ln lc)
     have hf7 := And.intro (hf6.1.step hof (fun k e => by have e' : k = tb := e; have := HWC.out; refine ⟨by omega, ?_, by omega⟩; rintro (h | h) <;> omega)) (And.intro ((hf6.2.1.set (.int .i64 ((k : Int) + (j : Int) - 2))).other (o' := 1) (by decide) (.slice la ln lc)) ((hf6.2.2.other (o' := 0) (by decide) (.int .i64 ((k : Int) + (j : Int) - 2))).set (.slice la ln lc)))
     replace r6 := r6.step hof (fun e => by have e' : b6 = tb := e; have := HWC.out; omega)
     replace hsp := hsp.away hof (fun k e => by have e' : k = tb := e; have := HWC.out; omega)
     clear hof
     refine hK.out _ _ (HS.out _ hf7) (fun hH => ?_)
     clear hK K
     try simp only [Act.put, sA, sB, sC]
     refine wpAnyH_done (by kernel_rfl) ?_ _
     have hEND := hf7
     clear hH
     simp only [onlyN]
     go_wp2_with fail
     have HRES := hid (And.intro r6 (And.intro hEND hsp))
     clear r6 hEND hsp hdr HS hf hf6 hf7
     refine leaves_cons (f := 92) (args := #[.pointer (some ⟨b6, 0, none⟩), .pointer (some ⟨tb, 0, none⟩)]) (by simp) (by simp [go_sem]) ?_
     refine (catch92_idle _ _ _).mono ?_
     rintro e u' w'' ⟨rfl, rfl, rfl⟩
     exact ⟨_, resM40 _ _ b6 tb ca1 g.length cc1 _ _ rfl rfl HRES.out.1.1 HRES.out.2.1.2.1.1 HRES.out.2.1.2.2.1, (show AnsM w g ((k : Int) + (j : Int) - 2) (ofTabL t (ranksTo total)) _ _ from by rw [← HL'.out]; exact ⟨ca1, cc1, la, ln, lc, rfl, HL2.out, HRES.out.2.2.here, HRES.out.2.1.1.row.here, HRES.out.2.1.1.gw⟩)⟩
    ·
     intro x c w1 cnt1 hwx hwc hlx hat hrg1 hlt hg1 hs1 hen
     have hTx := HJ.out.ask x hwx hlx
     have hcx : c = t x := by
      have h1 := (HKD.out x hwx).2 hTx (.lit (.int .i64 0))
      rw [hat] at h1
      injection h1 with h1
      injection h1 with _ h1
     subst hcx
     obtain ⟨hr1, hc1, hnm, hB1⟩ := HJ.out.row1 hg1
     have HK1 := hid (kept_calls w0.heap.size l la ln lc x (t x) w1 hr1 HJ.out.len (by have := HM.out; omega) hB1)
     have HXT := hid (And.intro hlx (And.intro hTx (And.intro hrg1 (And.intro hlt hg1))))
     clear hJ hat hrg1 hg1 hr1 hnm hB1
     go_wp2_with fail
     refine HK1.out.mono ?_
     rintro e w2 ⟨a', n', c', rfl, hown2, hn2, hg2, hat2⟩
     have hrc := HJ.out.row2 HXT.out.2.2.2.2 hg2
     have hN := hid (HJ.out.next HXT.out.1 HXT.out.2.1 HXT.out.2.2.1 HXT.out.2.2.2.1 HXT.out.2.2.2.2 hown2 hn2 hg2)
     have d1 := hrc.1
     have d2 := hrc.2
     clear hown2 hn2 hg2 hat2 hrc hc1
     go_wp2_with fail
     refine ⟨⟨_, _, _, _, _, _, hN.out⟩, ?_⟩
     rw [hm0, hN.out.rg.left_eq]
     exact HXT.out.2.2.2.1
end Go.Proofs.Ythdhmflodiincaa
