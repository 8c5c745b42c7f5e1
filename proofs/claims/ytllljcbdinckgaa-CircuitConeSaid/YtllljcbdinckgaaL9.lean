/- The law: a value rests on the variables that are reached alone. -/
import Derived.Test.YtllljcbdinckgaaK3
namespace Go.Proofs.Ytllljcbdinckgaa
open Go.RowKit

theorem eval_at4 {gs : List Gt} {vals : List Bool} {a va : Option Addr} {c vc nv : Nat} {w : World} {q : Bool} (hn : vals.length = nv) (x : Int) (e : evalC gs vals x = q) (hl : gs.length ≤ 1000) (hl2 : vals.length ≤ 1000) (hb : ∀ g ∈ gs, g.2.1 ≤ 9223372036854775807 ∧ g.2.2 ≤ 9223372036854775807) (hr : x ≤ 9223372036854775807) (h : GatesW w a c gs) (hv : BoolsW w va vc vals) :
    Calls Try.prog 23 #[.agg #[.slice a gs.length c], .slice va nv vc, .int .i64 x] w fun x w' => x = .returned (.bool q) ∧ w.grownBy w' none := by
  subst hn
  exact eval_at x e hl hl2 hb hr h hv
set_option maxRecDepth 100000 in
set_option maxHeartbeats 4000000 in
theorem cone_calls (l : List Stp) (sa : Option Addr) (sc : Nat) (n : Nat) (vals : List Bool) (va : Option Addr) (vc : Nat) (oth : List Bool) (oa : Option Addr) (oc : Nat) (w : World) (h : StpsW w sa sc l) (hs : ∀ s ∈ l, StpOk s) (hn : n < 256) (hv : BoolsW w va vc vals) (ho : BoolsW w oa oc oth) :
    Calls Try.prog 9 #[.slice sa l.length sc, .int .u8 (n : Int), .slice va vals.length vc, .slice oa oth.length oc] w fun e w' => e = .returned (.bool true) ∧ w.grownBy w' none := by
  obtain ⟨N, hN⟩ : ∃ N, l.length = N := ⟨_, rfl⟩
  have HS := Lib.hid (And.intro h hs)
  have HN := Lib.hid hN
  obtain ⟨nv, hnv⟩ : ∃ n, vals.length = n := ⟨_, rfl⟩
  obtain ⟨no, hno⟩ : ∃ n, oth.length = n := ⟨_, rfl⟩
  have HNV := Lib.hid hnv
  have HNO := Lib.hid hno
  have HBV := Lib.hid hv
  have HBO := Lib.hid ho
  have HV0 := Lib.hid hv
  rw [hN, hnv, hno]
  clear h hs hN hnv hno hv ho
  by_cases h60 : 60 < N
  · have f1 : decide ((60 : Int) < (N : Int)) = true := decide_eq_true (by omega)
    have f2 : decide (60 < N) = true := decide_eq_true h60
    go_enter Try.func9, Try.ntmps9
    go_wp2_with fail
    go_at_call 10
    refine (head_calls _).mono ?_
    rintro e V1 ⟨rfl, g⟩
    go_wp2_with fail
    go_ret
    exact ⟨rfl, g⟩
  have f1 : decide ((60 : Int) < (N : Int)) = false := decide_eq_false (by omega)
  have f2 : decide (60 < N) = false := decide_eq_false h60
  by_cases h61 : 60 < nv
  · have f3 : decide ((60 : Int) < (nv : Int)) = true := decide_eq_true (by omega)
    have f4 : decide (60 < nv) = true := decide_eq_true h61
    go_enter Try.func9, Try.ntmps9
    go_wp2_with fail
    go_at_call 10
    refine (head_calls _).mono ?_
    rintro e V1 ⟨rfl, g⟩
    go_wp2_with fail
    go_ret
    exact ⟨rfl, g⟩
  have f3 : decide ((60 : Int) < (nv : Int)) = false := decide_eq_false (by omega)
  have f4 : decide (60 < nv) = false := decide_eq_false h61
  by_cases h62 : 60 < no
  · have f5 : decide ((60 : Int) < (no : Int)) = true := decide_eq_true (by omega)
    have f6 : decide (60 < no) = true := decide_eq_true h62
    go_enter Try.func9, Try.ntmps9
    go_wp2_with fail
    go_at_call 10
    refine (head_calls _).mono ?_
    rintro e V1 ⟨rfl, g⟩
    go_wp2_with fail
    go_ret
    exact ⟨rfl, g⟩
  have f5 : decide ((60 : Int) < (no : Int)) = false := decide_eq_false (by omega)
  have f6 : decide (60 < no) = false := decide_eq_false h62
  obtain ⟨p, hp⟩ : ∃ p, buildC l = p := ⟨_, rfl⟩
  obtain ⟨g0, refs⟩ := p
  have HB := Lib.hid (show Built (g0, refs) N by have := built l (by rw [HN.out]; omega); rw [hp, HN.out] at this; exact this)
  have HP := Lib.hid hp
  clear hp
  have HG := Lib.hid (grown_refl w none)
  have HGD := Lib.hid (show Good g0 from HB.out.good)
  have HL := Lib.hid (show g0.length ≤ 181 from by have := HB.out.len; simp only at this; omega)
  have HRL := Lib.hid (show refs.length = N from HB.out.refs)
  have HRO := Lib.hid (show ∀ r ∈ refs, Ok g0 r from HB.out.ok)
  go_enter Try.func9, Try.ntmps9
  go_wp2_with fail
  go_at_call 10
  refine (head_calls _).mono ?_
  rintro e V1 ⟨rfl, g⟩
  replace HBV := Lib.hid (HBV.out.grown g)
  replace HBO := Lib.hid (HBO.out.grown g)
  replace HG := Lib.hid (World.grownBy.trans HG.out g)
  clear g
  go_wp2_with fail
  go_at_call 29
  have HBC := Lib.hid (build_calls l sa sc V1 HP.out (HS.out.1.grown HG.out) (by rw [HN.out]; omega) HS.out.2)
  rw [HN.out] at HBC
  refine HBC.out.mono ?_
  rintro e V2 ⟨a2, c2, ra, rc, rfl, hr, hri, g⟩
  replace HBV := Lib.hid (HBV.out.grown g)
  replace HBO := Lib.hid (HBO.out.grown g)
  replace HG := Lib.hid (World.grownBy.trans HG.out g)
  clear g
  have HRI := Lib.hid hri
  clear hri HBC
  go_upto_region 5 with fail
  have hb := CB.new hr
  have g := World.grownBy_alloc V2 (.cells #[.slice a2 g0.length c2] 25) none
  obtain ⟨V3, hV3⟩ : ∃ z, World.alloc V2 (.cells #[.slice a2 g0.length c2] 25) = z := ⟨_, rfl⟩
  rw [hV3] at g hb ⊢
  clear hV3 hr
  obtain ⟨bc, hbb⟩ : ∃ b, V2.heap.size = b := ⟨_, rfl⟩
  rw [hbb] at hb ⊢
  have Lc := Lib.hid (Nat.le_of_eq hbb)
  have Zc := Lib.hid (Nat.le_trans (World.grownBy.size HG.out) (Nat.le_of_eq hbb))
  clear hbb
  replace HBV := Lib.hid (HBV.out.grown g)
  replace HBO := Lib.hid (HBO.out.grown g)
  replace HRI := Lib.hid (HRI.out.grown g)
  replace HG := Lib.hid (World.grownBy.trans HG.out g)
  clear g
  have Hc := Lib.hid hb
  clear hb
  clear f1 f2 f3 f4 f5 f6
  have HI8 := Lib.hid (show In8 g0 from by have := in8_build l; rw [HP.out] at this; exact this)
  have qc := Hc.out.1
  have fc := Hc.out.2.1
  go_wp2_with fail
  clear qc fc
  go_at_call 30
  have HPC := Lib.hid (pick_calls refs n ra rc V3 HRI.out (by rw [HRL.out]; omega) hn (ok_le (by have := HL.out; omega) HRO.out))
  obtain ⟨x, hx⟩ : ∃ x, pickL refs n = x := ⟨_, rfl⟩
  rw [hx] at HPC
  have Ox := Lib.hid (show Ok g0 x from by rw [← hx]; exact pick_ok HGD.out.pos HRO.out n)
  have Mx := Lib.hid (show x ≤ 9223372036854775807 from by have := Ox.out.2; have := HL.out; omega)
  have Ex := Lib.hid hx
  clear hx
  refine HPC.out.mono ?_
  rintro e w9 ⟨rfl, hw9⟩
  rw [hw9]
  clear hw9 w9 HPC
  have qc := Hc.out.1
  have fc := Hc.out.2.1
  go_wp2_with fail
  clear qc fc
  go_at_call 31
  refine (reach_calls g0 x a2 c2 _ Hc.out.2.2 HGD.out (by have := HL.out; omega) Ox.out).mono ?_
  rintro e V4 ⟨M, bi, rfl, hbi, hbl, hmk, hmx, g⟩
  replace Hc := Lib.hid (Hc.out.grown g)
  replace HBV := Lib.hid (HBV.out.grown g)
  replace HBO := Lib.hid (HBO.out.grown g)
  replace HRI := Lib.hid (HRI.out.grown g)
  replace HG := Lib.hid (World.grownBy.trans HG.out g)
  clear g
  have HBI := Lib.hid hbi
  have HMK := Lib.hid (And.intro hmk hmx)
  have HBL := Lib.hid hbl
  clear hbi hmk hmx hbl
  have qc := Hc.out.1
  have fc := Hc.out.2.1
  go_wp2_with (at_builtin; refine append_bools rfl _ _ rfl V4.heap.size _ 0 [] rfl (World.ownsRow_made V4 #[] 0 (Nat.le_refl _) (Nat.zero_le _) rfl) oa no oc oth rfl HNO.out (HBO.out.grown (World.grownBy_alloc V4 _ none)) (by omega) (World.grownBy.size (World.grownBy_alloc V4 (.cells #[] 4) none)) ?_)
  clear qc fc
  have HGV := Lib.hid (show w.heap.size ≤ V4.heap.size from World.grownBy.size HG.out)
  have HCB := Lib.hid (show bc < V4.heap.size from lies_lt Hc.out.1)
  intro v' V5 hown' hgrow'
  have hown2 : V5.ownsRow V4.heap.size 4 1 v' no (boolCells oth) := by simpa using hown'
  obtain ⟨ma, mc, rfl⟩ := own_shape hown2
  have hg0 : V4.grownBy V5 none := grown_own (World.grownBy_alloc V4 _ none) hgrow' (fun j e => by simp [Value.ownBlock] at e; omega)
  have HO0 := Lib.hid hown2
  have HG0 := Lib.hid hg0
  clear hown' hown2 hgrow' hg0
  obtain ⟨i0, hi0, hz0, hz1, hz2⟩ := info_parts info4
  go_wp2_with fail
  go_loopg [14] (8 - no) (fun g s wr => ∃ (Z : List Bool) (ma : Option Addr) (mc : Nat), s = .slice ma Z.length mc ∧ g = 8 - Z.length ∧ Z.length ≤ 60 ∧ wr.ownsRow V4.heap.size 4 1 (.slice ma Z.length mc) Z.length (boolCells Z) ∧ V4.grownBy wr none)
  case atStart => exact ⟨oth, ma, mc, by rw [HNO.out], by rw [HNO.out], by rw [HNO.out]; omega, by rw [HNO.out]; exact HO0.out, HG0.out⟩
  case round =>
    obtain ⟨Z, ma, mc, rfl, hgk, hzl, hown, hgr⟩ := hrel
    obtain ⟨zl, hz⟩ : ∃ z, Z.length = z := ⟨_, rfl⟩
    have HZ := Lib.hid hz
    rw [hz] at hown hgk hzl ⊢
    have HI := Lib.hid hgk
    clear hgk hz
    obtain ⟨wo, hwo⟩ : ∃ z, z = wr := ⟨_, rfl⟩
    rw [← hwo] at hown hgr ⊢
    clear hwo
    have HOW := Lib.hid hown
    clear hown
    by_cases h8 : zl < 8
    · have f1 : decide (zl < 8) = true := decide_eq_true h8
      have f2 : decide ((zl : Int) < 8) = true := decide_eq_true (by omega)
      have HGR := Lib.hid hgr
      clear hgr
      go_wp2_with (at_builtin; refine wpList_append_own_at _ rfl _ _ 26 rfl V4.heap.size 4 i0 (.bool false) 1 1 Try.underlying26 hi0 hz0 hz1 hz2 rfl (by decide) _ zl (boolCells Z) rfl (HOW.out.alloc _) ⟨wo.heap.size, 0, none⟩ 1 1 [.bool false] rfl rfl (cell_one_new _ _ _) (fun u hu => by simp at hu; subst hu; rfl) (by unfold maxLen; omega) (by omega) (by have := HGR.out.size; simp; omega) ?_)
      intro v' w6 hown' hgrow6 _ hat6
      have haA := World.grownBy_alloc wo (.cells #[.bool false] 4) none
      obtain ⟨rgA, rcA, rfl⟩ := own_shape hown'
      have HGF := Lib.hid (grown_own (World.grownBy.trans HGR.out haA) hgrow6 (fun j e => ((HOW.out.alloc (.cells #[.bool false] 4)).lt j e).1))
      have HOF := Lib.hid (show w6.ownsRow V4.heap.size 4 1 (.slice rgA (zl + 1) rcA) (zl + 1) (boolCells (Z ++ [false])) by rw [boolCells, List.map_append]; exact hown')
      have HZ1 := Lib.hid (show (Z ++ [false]).length = zl + 1 by rw [List.length_append, HZ.out]; rfl)
      clear hown' hgrow6 haA hat6
      go_wp2_with fail
      go_roundg (8 - (zl + 1))
      case measure => rw [HI.out]; omega
      case rel => exact ⟨Z ++ [false], rgA, rcA, by rw [HZ1.out], by rw [HZ1.out], by rw [HZ1.out]; omega, by rw [HZ1.out]; exact HOF.out, HGF.out⟩
    · have f1 : decide (zl < 8) = false := decide_eq_false h8
      have f2 : decide ((zl : Int) < 8) = false := decide_eq_false (by omega)
      have HBV2 := Lib.hid (HBI.out.grown hgr (by simp))
      replace Hc := Lib.hid (Hc.out.grown hgr)
      replace HBV := Lib.hid (HBV.out.grown hgr)
      replace HBO := Lib.hid (HBO.out.grown hgr)
      replace HRI := Lib.hid (HRI.out.grown hgr)
      replace HG := Lib.hid (World.grownBy.trans HG.out hgr)
      clear hgr
      obtain ⟨bm, hma, hbm, hlow, hcap⟩ := own_barr HOW.out (by omega)
      subst hma
      have HBM := Lib.hid hbm
      have HLO := Lib.hid (And.intro hlow hcap)
      have HBI2 := Lib.hid (show bi < V4.heap.size from HBI.out.low)
      have HML := Lib.hid (show M.length = g0.length from HMK.out.1.len)
      clear hbm hlow hcap
      have HGW := Lib.hid (show w.grownBy wo none from HG.out)
      have HLW := Lib.hid (show w.heap.size ≤ bm from Nat.le_trans (Nat.le_trans HGV.out (Nat.le_refl _)) HLO.out.1)
      clear HI
      have qc := Hc.out.1
      have fc := Hc.out.2.1
      go_wp2_with fail
      clear qc fc
      clear f1 f2
      have hM := HML.out
      go_loopg [15] g0.length (fun g s wr => ∃ (k : Nat) (Y : List Bool), s = .int .i64 (k : Int) ∧ g = g0.length - k ∧ k ≤ g0.length ∧ Y.length = zl ∧ BArr wr bm Y ∧ Agr g0 M vals Y k ∧ wo.grownBy wr (some bm))
      case atStart => exact ⟨0, Z, rfl, rfl, Nat.zero_le _, HZ.out, HBM.out, fun j g hj => by omega, grown_refl _ _⟩
      case round =>
        obtain ⟨k, Y, rfl, hgk, hk, hyl, hby, hag, hgr⟩ := hrel
        have HI := Lib.hid hgk; clear hgk
        obtain ⟨wp, hwp⟩ : ∃ z, z = wr := ⟨_, rfl⟩
        rw [← hwp] at hby hgr ⊢
        clear hwp
        have HBY := Lib.hid hby
        have HAG := Lib.hid (And.intro hag hyl)
        have HGR := Lib.hid hgr
        clear hby hag hyl hgr
        have HCP := Lib.hid (Hc.out.past (by have h1 := HCB.out; omega) HOW.out (by decide) HGR.out)
        have HWP := Lib.hid (grown_own HGW.out HGR.out (fun j e => by cases e; exact HLW.out))
        have HIP := Lib.hid (HBV2.out.grown HGR.out (fun e => by injection e with e; have h1 := HLO.out.1; have h2 := HBI2.out; omega))
        have qc := HCP.out.1
        by_cases hkn : k < g0.length
        · have f1 : decide (k < g0.length) = true := decide_eq_true hkn
          have hk1 : IntKind.i64.wrap ((k : Int) + 1) = ((k + 1 : Nat) : Int) := by rw [IntWalk.i64_in _ (by have := HL.out; omega)]; omega
          have b0 : (k : Int) < (g0.length : Int) := by omega
          have hj0 : (0 : Int) ≤ (k : Int) := by omega
          obtain ⟨g, hg⟩ : ∃ g, g0[k]? = some g := ⟨_, List.getElem?_eq_getElem hkn⟩
          obtain ⟨ba, ob, ec, x0, x1, x2⟩ := HCP.out.2.2.at hg
          subst ec
          have HGG := Lib.hid hg
          have HFM := Lib.hid (show 0 < k → formG g k from fun h => HGD.out.form k g h hg)
          have HZR := Lib.hid (show k = 0 → g = (0, 0, 0) from fun h => by subst h; rw [HGD.out.zero] at hg; cases hg; rfl)
          have H8 := Lib.hid (HI8.out g (List.mem_of_getElem? hg))
          clear hg
          obtain ⟨m, hm⟩ : ∃ m, M[k]? = some m := ⟨_, List.getElem?_eq_getElem (by rw [HML.out]; exact hkn)⟩
          have HM := Lib.hid hm
          have hgc := gate_cells wp g
          have hga2 := World.grownBy_alloc wp (.cells #[.int .i64 g.1, .int .i64 g.2.1, .int .i64 g.2.2] 47) none
          obtain ⟨wA, hwA⟩ : ∃ W, wp.alloc (.cells #[.int .i64 g.1, .int .i64 g.2.1, .int .i64 g.2.2] 47) = W := ⟨_, rfl⟩
          rw [hwA] at hgc hga2
          have m0 := (HIP.out.grown hga2 (by simp)).cells k m hm
          have HGA := Lib.hid hga2
          have HBA := Lib.hid (HBY.out.grown hga2 (by simp))
          have HLG := Lib.hid (show bm < wp.heap.size from HBY.out.low)
          obtain ⟨y0, y1, y2⟩ := hgc
          have HY := Lib.hid (show GateAt wA wp.heap.size 0 g from ⟨y0, y1, y2⟩)
          have HGT := Lib.hid (World.grownBy.trans HGR.out (grown_any hga2 (some bm)))
          clear hm hga2
          cases m with
          | false =>
            have HAS := Lib.hid (HAG.out.1.skip HGG.out (.inl HM.out))
            go_wp2_with fail
            go_roundg (g0.length - (k + 1))
            case measure => rw [HI.out]; omega
            case rel => exact ⟨k + 1, Y, rfl, rfl, by omega, HAG.out.2, HBA.out, HAS.out, HGT.out⟩
          | true =>
            by_cases hK1 : g.1 = 1
            · have e1 := beqT hK1
              have hwA2 : wp.alloc (.cells #[.int .i64 1, .int .i64 g.2.1, .int .i64 g.2.2] 47) = wA := by rw [← hK1]; exact hwA
              have hkp : 0 < k := by cases k with | zero => have h := HZR.out rfl; rw [h] at hK1; cases hK1 | succ k => omega
              have hA : 1 ≤ g.2.1 := by rcases HFM.out hkp with h | h <;> omega
              have hA8 : g.2.1 ≤ 8 := H8.out hK1
              have e2 : decide (1 ≤ g.2.1) = true := decide_eq_true hA
              have e3 : decide (g.2.1 ≤ (zl : Int)) = true := decide_eq_true (by omega)
              obtain ⟨i, hi⟩ : ∃ i : Nat, g.2.1 - 1 = (i : Int) := ⟨(g.2.1 - 1).toNat, by omega⟩
              have hwi : IntKind.i64.wrap (g.2.1 - 1) = (i : Int) := by rw [IntWalk.i64_in _ (by omega)]; exact hi
              have hil : (i : Int) < (zl : Int) := by omega
              have hil2 : i < zl := by omega
              have hi0' : (0 : Int) ≤ (i : Int) := by omega
              have HTN := Lib.hid (show (g.2.1 - 1).toNat = i by rw [hi, Int.toNat_natCast])
              obtain ⟨yv, hyv⟩ : ∃ y, Y[i]? = some y := ⟨_, List.getElem?_eq_getElem (by rw [HAG.out.2]; exact hil2)⟩
              have HYV := Lib.hid hyv
              have HAS := Lib.hid (HAG.out.1.set HGG.out HTN.out (by rw [HAG.out.2]; exact hil2))
              have hni : g.2.1 ≤ (nv : Int) ↔ i < nv := by omega
              clear hyv
              by_cases hin : i < nv
              · have u1 : decide (g.2.1 ≤ (nv : Int)) = true := decide_eq_true (hni.2 hin)
                obtain ⟨z, hz⟩ : ∃ z, vals[i]? = some z := ⟨_, List.getElem?_eq_getElem (by rw [HNV.out]; exact hin)⟩
                obtain ⟨bv, ov, hva, xv0⟩ := HV0.out.at hz
                have HBVL := Lib.hid (show bv < w.heap.size from lies_lt xv0)
                have XV := Lib.hid ((World.grownBy.trans HWP.out HGA.out).cell xv0 (by simp))
                have HVX := Lib.hid (show (vals[i]?).getD false = z by rw [hz]; rfl)
                have hin2 : (i : Int) < (nv : Int) := by omega
                subst hva
                clear hz xv0 hK1 hni hi hA hA8 hkp
                go_wp2_with fail
                clear x0 x1 x2 y0 y1 y2 m0 qc
                have HS := Lib.hid (fun (Wh : World) (hWh : wA.grownBy Wh (some bm)) => (⟨hWh.cell HY.out.2.1 (show some wp.heap.size ≠ some bm from fun e => by injection e with e; have := HLG.out; omega), hWh.cell XV.out (show some bv ≠ some bm from fun e => by injection e with e; have := HBVL.out; have := HLW.out; omega)⟩ : (fun Wh : World => Wh.cell? ⟨wp.heap.size, 1, none⟩ = some (.int .i64 g.2.1) ∧ Wh.cell? ⟨bv, ov + i, none⟩ = some (.bool z)) Wh))
                have hdr : wA.grownBy wA.drew (some bm) := grown_any ((⟨rfl, rfl, rfl, Nat.le_refl _, fun _ _ _ => rfl⟩ : (wA).grownBy (wA).drew none)) _
                refine wp_region_held_drew (S := (fun Wh : World => Wh.cell? ⟨wp.heap.size, 1, none⟩ = some (.int .i64 g.2.1) ∧ Wh.cell? ⟨bv, ov + i, none⟩ = some (.bool z))) (by kernel_rfl) (HS.out _ hdr) (fun hHeld => ?_)
                refine wpAnyH_take (i := 0) (oi := { dst := some 84, op := Op.move (Operand.tmp 14), type := 26, pos := "law.go:220", after := #[], guard := none }) (v := ?_) rfl (by kernel_rfl) (by kernel_rfl) (by kernel_rfl) (fun _ _ _ h => h) (Or.inl ⟨by rfl, ?_⟩) (by assumption) ?_
                rotate_left 1
                · (intro W hSW; (try dsimp only at hSW); first | (go_simp; done) | (go_simp; with_reducible rfl))
                try simp only [Act.put, List.setIfInBounds_toArray, List.set_cons_zero, List.set_cons_succ]
                refine wpAnyH_take (i := 1) (oi := { dst := some 85, op := Op.fieldAddr 47 (Operand.tmp 16) 1, type := 0, pos := "law.go:220", after := #[], guard := none }) (v := ?_) rfl (by kernel_rfl) (by kernel_rfl) (by kernel_rfl) (fun _ _ _ h => h) (Or.inl ⟨by rfl, ?_⟩) (by assumption) ?_
                rotate_left 1
                · (intro W hSW; (try dsimp only at hSW); first | (go_simp; done) | (go_simp; with_reducible rfl))
                try simp only [Act.put, List.setIfInBounds_toArray, List.set_cons_zero, List.set_cons_succ]
                refine wpAnyH_take (i := 2) (oi := { dst := some 86, op := Op.load 3 (Operand.tmp 85), type := 3, pos := "law.go:220", after := #[{ on := 1, ground := Ground.data }], guard := none }) (v := ?_) rfl (by kernel_rfl) (by kernel_rfl) (by kernel_rfl) (fun _ _ _ h => h) (Or.inl ⟨by rfl, ?_⟩) (by assumption) ?_
                rotate_left 1
                · (intro W hSW; (try dsimp only at hSW); first | (go_simp; done) | (go_simp; with_reducible rfl))
                try simp only [Act.put, List.setIfInBounds_toArray, List.set_cons_zero, List.set_cons_succ]
                refine wpAnyH_take (i := 3) (oi := { dst := some 87, op := Op.binOp BinOp.sub 3 (Operand.tmp 86) (Operand.const (Value.int IntKind.i64 1)) 3, type := 3, pos := "law.go:220", after := #[{ on := 2, ground := Ground.data }], guard := none }) (v := ?_) rfl (by kernel_rfl) (by kernel_rfl) (by kernel_rfl) (fun _ _ _ h => h) (Or.inl ⟨by rfl, ?_⟩) (by assumption) ?_
                rotate_left 1
                · (intro W hSW; (try dsimp only at hSW); first | (go_simp; done) | (go_simp; with_reducible rfl))
                try simp only [Act.put, List.setIfInBounds_toArray, List.set_cons_zero, List.set_cons_succ]
                refine wpAnyH_take (i := 4) (oi := { dst := some 88, op := Op.fieldAddr 47 (Operand.tmp 16) 1, type := 0, pos := "law.go:220", after := #[], guard := none }) (v := ?_) rfl (by kernel_rfl) (by kernel_rfl) (by kernel_rfl) (fun _ _ _ h => h) (Or.inl ⟨by rfl, ?_⟩) (by assumption) ?_
                rotate_left 1
                · (intro W hSW; (try dsimp only at hSW); first | (go_simp; done) | (go_simp; with_reducible rfl))
                try simp only [Act.put, List.setIfInBounds_toArray, List.set_cons_zero, List.set_cons_succ]
                refine wpAnyH_take (i := 5) (oi := { dst := some 89, op := Op.load 3 (Operand.tmp 88), type := 3, pos := "law.go:220", after := #[{ on := 4, ground := Ground.data }], guard := none }) (v := ?_) rfl (by kernel_rfl) (by kernel_rfl) (by kernel_rfl) (fun _ _ _ h => h) (Or.inl ⟨by rfl, ?_⟩) (by assumption) ?_
                rotate_left 1
                · (intro W hSW; (try dsimp only at hSW); first | (go_simp; done) | (go_simp; with_reducible rfl))
                try simp only [Act.put, List.setIfInBounds_toArray, List.set_cons_zero, List.set_cons_succ]
                refine wpAnyH_take (i := 6) (oi := { dst := some 90, op := Op.move (Operand.tmp 2), type := 26, pos := "law.go:220", after := #[], guard := none }) (v := ?_) rfl (by kernel_rfl) (by kernel_rfl) (by kernel_rfl) (fun _ _ _ h => h) (Or.inl ⟨by rfl, ?_⟩) (by assumption) ?_
                rotate_left 1
                · (intro W hSW; (try dsimp only at hSW); first | (go_simp; done) | (go_simp; with_reducible rfl))
                try simp only [Act.put, List.setIfInBounds_toArray, List.set_cons_zero, List.set_cons_succ]
                refine wpAnyH_take (i := 7) (oi := { dst := some 91, op := Op.call { callee := Callee.builtin Builtin.len, args := #[Operand.tmp 90], argTypes := #[26] }, type := 3, pos := "law.go:220", after := #[{ on := 6, ground := Ground.data }], guard := none }) (v := ?_) rfl (by kernel_rfl) (by kernel_rfl) (by kernel_rfl) (fun _ _ _ h => h) (Or.inl ⟨by rfl, ?_⟩) (by assumption) ?_
                rotate_left 1
                · (intro W hSW; (try dsimp only at hSW); first | (go_simp; done) | (go_simp; with_reducible rfl))
                try simp only [Act.put, List.setIfInBounds_toArray, List.set_cons_zero, List.set_cons_succ]
                refine wpAnyH_take (i := 8) (oi := { dst := some 92, op := Op.binOp BinOp.leq 3 (Operand.tmp 89) (Operand.tmp 91) 3, type := 4, pos := "law.go:220", after := #[{ on := 5, ground := Ground.data }, { on := 7, ground := Ground.data }], guard := none }) (v := ?_) rfl (by kernel_rfl) (by kernel_rfl) (by kernel_rfl) (fun _ _ _ h => h) (Or.inl ⟨by rfl, ?_⟩) (by assumption) ?_
                rotate_left 1
                · (intro W hSW; (try dsimp only at hSW); first | (go_simp; done) | (go_simp; with_reducible rfl))
                try simp only [Act.put, List.setIfInBounds_toArray, List.set_cons_zero, List.set_cons_succ]
                refine wpAnyH_take (i := 9) (oi := { dst := some 93, op := Op.move (Operand.tmp 92), type := 4, pos := "law.go:220", after := #[{ on := 8, ground := Ground.data }], guard := none }) (v := ?_) rfl (by kernel_rfl) (by kernel_rfl) (by kernel_rfl) (fun _ _ _ h => h) (Or.inl ⟨by rfl, ?_⟩) (by assumption) ?_
                rotate_left 1
                · (intro W hSW; (try dsimp only at hSW); first | (go_simp; done) | (go_simp; with_reducible rfl))
                try simp only [Act.put, List.setIfInBounds_toArray, List.set_cons_zero, List.set_cons_succ]
                refine wpAnyH_take (i := 10) (oi := { dst := some 94, op := Op.move (Operand.tmp 2), type := 26, pos := "law.go:220", after := #[{ on := 9, ground := Ground.guard }], guard := some (9, true) }) (v := ?_) rfl (by kernel_rfl) (by kernel_rfl) (by kernel_rfl) (fun _ _ _ h => h) (Or.inl ⟨by rfl, ?_⟩) (by assumption) ?_
                rotate_left 1
                · (intro W hSW; (try dsimp only at hSW); first | (go_simp; done) | (go_simp; with_reducible rfl))
                try simp only [Act.put, List.setIfInBounds_toArray, List.set_cons_zero, List.set_cons_succ]
                refine wpAnyH_take (i := 11) (oi := { dst := some 95, op := Op.fieldAddr 47 (Operand.tmp 16) 1, type := 0, pos := "law.go:220", after := #[{ on := 9, ground := Ground.guard }], guard := some (9, true) }) (v := ?_) rfl (by kernel_rfl) (by kernel_rfl) (by kernel_rfl) (fun _ _ _ h => h) (Or.inl ⟨by rfl, ?_⟩) (by assumption) ?_
                rotate_left 1
                · (intro W hSW; (try dsimp only at hSW); first | (go_simp; done) | (go_simp; with_reducible rfl))
                try simp only [Act.put, List.setIfInBounds_toArray, List.set_cons_zero, List.set_cons_succ]
                refine wpAnyH_take (i := 12) (oi := { dst := some 96, op := Op.load 3 (Operand.tmp 95), type := 3, pos := "law.go:220", after := #[{ on := 11, ground := Ground.data }, { on := 9, ground := Ground.guard }], guard := some (9, true) }) (v := ?_) rfl (by kernel_rfl) (by kernel_rfl) (by kernel_rfl) (fun _ _ _ h => h) (Or.inl ⟨by rfl, ?_⟩) (by assumption) ?_
                rotate_left 1
                · (intro W hSW; (try dsimp only at hSW); first | (go_simp; done) | (go_simp; with_reducible rfl))
                try simp only [Act.put, List.setIfInBounds_toArray, List.set_cons_zero, List.set_cons_succ]
                refine wpAnyH_take (i := 13) (oi := { dst := some 97, op := Op.binOp BinOp.sub 3 (Operand.tmp 96) (Operand.const (Value.int IntKind.i64 1)) 3, type := 3, pos := "law.go:220", after := #[{ on := 12, ground := Ground.data }, { on := 9, ground := Ground.guard }], guard := some (9, true) }) (v := ?_) rfl (by kernel_rfl) (by kernel_rfl) (by kernel_rfl) (fun _ _ _ h => h) (Or.inl ⟨by rfl, ?_⟩) (by assumption) ?_
                rotate_left 1
                · (intro W hSW; (try dsimp only at hSW); first | (go_simp; done) | (go_simp; with_reducible rfl))
                try simp only [Act.put, List.setIfInBounds_toArray, List.set_cons_zero, List.set_cons_succ]
                refine wpAnyH_take (i := 14) (oi := { dst := some 98, op := Op.indexAddr 26 (Operand.tmp 94) (Operand.tmp 97), type := 0, pos := "law.go:220", after := #[{ on := 10, ground := Ground.data }, { on := 13, ground := Ground.data }, { on := 9, ground := Ground.guard }], guard := some (9, true) }) (v := ?_) rfl (by kernel_rfl) (by kernel_rfl) (by kernel_rfl) (fun _ _ _ h => h) (Or.inl ⟨by rfl, ?_⟩) (by assumption) ?_
                rotate_left 1
                · (intro W hSW; (try dsimp only at hSW); first | (go_simp; done) | (go_simp; with_reducible rfl))
                try simp only [Act.put, List.setIfInBounds_toArray, List.set_cons_zero, List.set_cons_succ]
                refine wpAnyH_take (i := 15) (oi := { dst := some 99, op := Op.load 4 (Operand.tmp 98), type := 4, pos := "law.go:220", after := #[{ on := 14, ground := Ground.data }, { on := 9, ground := Ground.guard }], guard := some (9, true) }) (v := ?_) rfl (by kernel_rfl) (by kernel_rfl) (by kernel_rfl) (fun _ _ _ h => h) (Or.inl ⟨by rfl, ?_⟩) (by assumption) ?_
                rotate_left 1
                · (intro W hSW; (try dsimp only at hSW); first | (go_simp; done) | (go_simp; with_reducible rfl))
                try simp only [Act.put, List.setIfInBounds_toArray, List.set_cons_zero, List.set_cons_succ]
                refine wpAnyH_take (i := 16) (oi := { dst := some 100, op := Op.pick (Operand.tmp 93) (Operand.tmp 99) (Operand.const (Value.bool false)), type := 4, pos := "law.go:220", after := #[{ on := 9, ground := Ground.data }, { on := 15, ground := Ground.data }], guard := none }) (v := ?_) rfl (by kernel_rfl) (by kernel_rfl) (by kernel_rfl) (fun _ _ _ h => h) (Or.inl ⟨by rfl, ?_⟩) (by assumption) ?_
                rotate_left 1
                · (intro W hSW; (try dsimp only at hSW); first | (go_simp; done) | (go_simp; with_reducible rfl))
                try simp only [Act.put, List.setIfInBounds_toArray, List.set_cons_zero, List.set_cons_succ]
                refine wpAnyH_take (i := 17) (oi := { dst := some 101, op := Op.indexAddr 26 (Operand.tmp 84) (Operand.tmp 87), type := 0, pos := "law.go:220", after := #[{ on := 0, ground := Ground.data }, { on := 3, ground := Ground.data }, { on := 0, ground := Ground.phase }, { on := 1, ground := Ground.phase }, { on := 2, ground := Ground.phase }, { on := 3, ground := Ground.phase }, { on := 4, ground := Ground.phase }, { on := 5, ground := Ground.phase }, { on := 6, ground := Ground.phase }, { on := 7, ground := Ground.phase }, { on := 8, ground := Ground.phase }, { on := 9, ground := Ground.phase }, { on := 10, ground := Ground.phase }, { on := 11, ground := Ground.phase }, { on := 12, ground := Ground.phase }, { on := 13, ground := Ground.phase }, { on := 14, ground := Ground.phase }, { on := 15, ground := Ground.phase }, { on := 16, ground := Ground.phase }], guard := none }) (v := ?_) rfl (by kernel_rfl) (by kernel_rfl) (by kernel_rfl) (fun _ _ _ h => h) (Or.inl ⟨by rfl, ?_⟩) (by assumption) ?_
                rotate_left 1
                · (intro W hSW; (try dsimp only at hSW); first | (go_simp; done) | (go_simp; with_reducible rfl))
                try simp only [Act.put, List.setIfInBounds_toArray, List.set_cons_zero, List.set_cons_succ]
                refine wpAnyH_ready (rs := [18]) (by kernel_rfl) (by simp) ?_
                refine (AllReadyH.cons (o := { dst := none, op := Op.store 4 (Operand.tmp 101) (Operand.tmp 100), type := 0, pos := "law.go:220", after := #[{ on := 17, ground := Ground.data }, { on := 16, ground := Ground.data }, { on := 9, ground := Ground.chain }, { on := 0, ground := Ground.phase }, { on := 1, ground := Ground.phase }, { on := 2, ground := Ground.phase }, { on := 3, ground := Ground.phase }, { on := 4, ground := Ground.phase }, { on := 5, ground := Ground.phase }, { on := 6, ground := Ground.phase }, { on := 7, ground := Ground.phase }, { on := 8, ground := Ground.phase }, { on := 9, ground := Ground.phase }, { on := 10, ground := Ground.phase }, { on := 11, ground := Ground.phase }, { on := 12, ground := Ground.phase }, { on := 13, ground := Ground.phase }, { on := 14, ground := Ground.phase }, { on := 15, ground := Ground.phase }, { on := 16, ground := Ground.phase }], guard := none }) rfl (fun K hK => ?_) AllReadyH.nil)
                rw [if_pos (by rfl)]
                have c0 := HBA.out.cells i yv HYV.out
                have cf := HBA.out.fr i
                go_simp
                clear c0 cf
                have hgs : wA.grownBy ((wA.setCell ⟨bm, i, none⟩ (.bool z)).drew) (some bm) := World.grownBy.trans (grown_set wA bm i (.bool z)) (grown_any (⟨rfl, rfl, rfl, Nat.le_refl _, fun _ _ _ => rfl⟩ : ((wA.setCell ⟨bm, i, none⟩ (.bool z))).grownBy ((wA.setCell ⟨bm, i, none⟩ (.bool z))).drew none) _)
                refine hK.out _ _ (HS.out _ hgs) (fun hHeld => ?_)
                clear hK K
                try simp only [Act.put, List.setIfInBounds_toArray, List.set_cons_zero, List.set_cons_succ]
                refine wpAnyH_done (by kernel_rfl) ?_ _
                have hEND := hgs
                clear hHeld
                have HBN := Lib.hid ((HBA.out.set HYV.out z).grown (⟨rfl, rfl, rfl, Nat.le_refl _, fun _ _ _ => rfl⟩ : ((wA.setCell ⟨bm, i, none⟩ (.bool z))).grownBy ((wA.setCell ⟨bm, i, none⟩ (.bool z))).drew none) (by simp))
                have HGN := Lib.hid (World.grownBy.trans HGT.out hgs)
                clear hgs hdr hEND
                obtain ⟨wS, hwS⟩ : ∃ w9, (wA.setCell ⟨bm, i, none⟩ (.bool z)).drew = w9 := ⟨_, rfl⟩
                rw [hwS] at HBN HGN ⊢
                clear hwS
                go_wp2_with fail
                go_roundg (g0.length - (k + 1))
                case measure => rw [HI.out]; omega
                case rel => exact ⟨k + 1, Y.set i z, rfl, rfl, by omega, by rw [List.length_set]; exact HAG.out.2, HBN.out, by have h := HAS.out; rw [HVX.out] at h; exact h, HGN.out⟩
              · have u1 : decide (g.2.1 ≤ (nv : Int)) = false := decide_eq_false (fun h => hin (hni.1 h))
                have HVX := Lib.hid (show (vals[i]?).getD false = false by rw [List.getElem?_eq_none (by rw [HNV.out]; omega)]; rfl)
                clear hK1 hni hi hA hA8 hkp
                go_wp2_with fail
                clear x0 x1 x2 y0 y1 y2 m0 qc
                have HS := Lib.hid (fun (Wh : World) (hWh : wA.grownBy Wh (some bm)) => (hWh.cell HY.out.2.1 (show some wp.heap.size ≠ some bm from fun e => by injection e with e; have := HLG.out; omega) : (fun Wh : World => Wh.cell? ⟨wp.heap.size, 1, none⟩ = some (.int .i64 g.2.1)) Wh))
                have hdr : wA.grownBy wA.drew (some bm) := grown_any ((⟨rfl, rfl, rfl, Nat.le_refl _, fun _ _ _ => rfl⟩ : (wA).grownBy (wA).drew none)) _
                refine wp_region_held_drew (S := (fun Wh : World => Wh.cell? ⟨wp.heap.size, 1, none⟩ = some (.int .i64 g.2.1))) (by kernel_rfl) (HS.out _ hdr) (fun hHeld => ?_)
                refine wpAnyH_take (i := 0) (oi := { dst := some 84, op := Op.move (Operand.tmp 14), type := 26, pos := "law.go:220", after := #[], guard := none }) (v := ?_) rfl (by kernel_rfl) (by kernel_rfl) (by kernel_rfl) (fun _ _ _ h => h) (Or.inl ⟨by rfl, ?_⟩) (by assumption) ?_
                rotate_left 1
                · (intro W hSW; (try dsimp only at hSW); first | (go_simp; done) | (go_simp; with_reducible rfl))
                try simp only [Act.put, List.setIfInBounds_toArray, List.set_cons_zero, List.set_cons_succ]
                refine wpAnyH_take (i := 1) (oi := { dst := some 85, op := Op.fieldAddr 47 (Operand.tmp 16) 1, type := 0, pos := "law.go:220", after := #[], guard := none }) (v := ?_) rfl (by kernel_rfl) (by kernel_rfl) (by kernel_rfl) (fun _ _ _ h => h) (Or.inl ⟨by rfl, ?_⟩) (by assumption) ?_
                rotate_left 1
                · (intro W hSW; (try dsimp only at hSW); first | (go_simp; done) | (go_simp; with_reducible rfl))
                try simp only [Act.put, List.setIfInBounds_toArray, List.set_cons_zero, List.set_cons_succ]
                refine wpAnyH_take (i := 2) (oi := { dst := some 86, op := Op.load 3 (Operand.tmp 85), type := 3, pos := "law.go:220", after := #[{ on := 1, ground := Ground.data }], guard := none }) (v := ?_) rfl (by kernel_rfl) (by kernel_rfl) (by kernel_rfl) (fun _ _ _ h => h) (Or.inl ⟨by rfl, ?_⟩) (by assumption) ?_
                rotate_left 1
                · (intro W hSW; (try dsimp only at hSW); first | (go_simp; done) | (go_simp; with_reducible rfl))
                try simp only [Act.put, List.setIfInBounds_toArray, List.set_cons_zero, List.set_cons_succ]
                refine wpAnyH_take (i := 3) (oi := { dst := some 87, op := Op.binOp BinOp.sub 3 (Operand.tmp 86) (Operand.const (Value.int IntKind.i64 1)) 3, type := 3, pos := "law.go:220", after := #[{ on := 2, ground := Ground.data }], guard := none }) (v := ?_) rfl (by kernel_rfl) (by kernel_rfl) (by kernel_rfl) (fun _ _ _ h => h) (Or.inl ⟨by rfl, ?_⟩) (by assumption) ?_
                rotate_left 1
                · (intro W hSW; (try dsimp only at hSW); first | (go_simp; done) | (go_simp; with_reducible rfl))
                try simp only [Act.put, List.setIfInBounds_toArray, List.set_cons_zero, List.set_cons_succ]
                refine wpAnyH_take (i := 4) (oi := { dst := some 88, op := Op.fieldAddr 47 (Operand.tmp 16) 1, type := 0, pos := "law.go:220", after := #[], guard := none }) (v := ?_) rfl (by kernel_rfl) (by kernel_rfl) (by kernel_rfl) (fun _ _ _ h => h) (Or.inl ⟨by rfl, ?_⟩) (by assumption) ?_
                rotate_left 1
                · (intro W hSW; (try dsimp only at hSW); first | (go_simp; done) | (go_simp; with_reducible rfl))
                try simp only [Act.put, List.setIfInBounds_toArray, List.set_cons_zero, List.set_cons_succ]
                refine wpAnyH_take (i := 5) (oi := { dst := some 89, op := Op.load 3 (Operand.tmp 88), type := 3, pos := "law.go:220", after := #[{ on := 4, ground := Ground.data }], guard := none }) (v := ?_) rfl (by kernel_rfl) (by kernel_rfl) (by kernel_rfl) (fun _ _ _ h => h) (Or.inl ⟨by rfl, ?_⟩) (by assumption) ?_
                rotate_left 1
                · (intro W hSW; (try dsimp only at hSW); first | (go_simp; done) | (go_simp; with_reducible rfl))
                try simp only [Act.put, List.setIfInBounds_toArray, List.set_cons_zero, List.set_cons_succ]
                refine wpAnyH_take (i := 6) (oi := { dst := some 90, op := Op.move (Operand.tmp 2), type := 26, pos := "law.go:220", after := #[], guard := none }) (v := ?_) rfl (by kernel_rfl) (by kernel_rfl) (by kernel_rfl) (fun _ _ _ h => h) (Or.inl ⟨by rfl, ?_⟩) (by assumption) ?_
                rotate_left 1
                · (intro W hSW; (try dsimp only at hSW); first | (go_simp; done) | (go_simp; with_reducible rfl))
                try simp only [Act.put, List.setIfInBounds_toArray, List.set_cons_zero, List.set_cons_succ]
                refine wpAnyH_take (i := 7) (oi := { dst := some 91, op := Op.call { callee := Callee.builtin Builtin.len, args := #[Operand.tmp 90], argTypes := #[26] }, type := 3, pos := "law.go:220", after := #[{ on := 6, ground := Ground.data }], guard := none }) (v := ?_) rfl (by kernel_rfl) (by kernel_rfl) (by kernel_rfl) (fun _ _ _ h => h) (Or.inl ⟨by rfl, ?_⟩) (by assumption) ?_
                rotate_left 1
                · (intro W hSW; (try dsimp only at hSW); first | (go_simp; done) | (go_simp; with_reducible rfl))
                try simp only [Act.put, List.setIfInBounds_toArray, List.set_cons_zero, List.set_cons_succ]
                refine wpAnyH_take (i := 8) (oi := { dst := some 92, op := Op.binOp BinOp.leq 3 (Operand.tmp 89) (Operand.tmp 91) 3, type := 4, pos := "law.go:220", after := #[{ on := 5, ground := Ground.data }, { on := 7, ground := Ground.data }], guard := none }) (v := ?_) rfl (by kernel_rfl) (by kernel_rfl) (by kernel_rfl) (fun _ _ _ h => h) (Or.inl ⟨by rfl, ?_⟩) (by assumption) ?_
                rotate_left 1
                · (intro W hSW; (try dsimp only at hSW); first | (go_simp; done) | (go_simp; with_reducible rfl))
                try simp only [Act.put, List.setIfInBounds_toArray, List.set_cons_zero, List.set_cons_succ]
                refine wpAnyH_take (i := 9) (oi := { dst := some 93, op := Op.move (Operand.tmp 92), type := 4, pos := "law.go:220", after := #[{ on := 8, ground := Ground.data }], guard := none }) (v := ?_) rfl (by kernel_rfl) (by kernel_rfl) (by kernel_rfl) (fun _ _ _ h => h) (Or.inl ⟨by rfl, ?_⟩) (by assumption) ?_
                rotate_left 1
                · (intro W hSW; (try dsimp only at hSW); first | (go_simp; done) | (go_simp; with_reducible rfl))
                try simp only [Act.put, List.setIfInBounds_toArray, List.set_cons_zero, List.set_cons_succ]
                refine wpAnyH_take (i := 10) (oi := { dst := some 94, op := Op.move (Operand.tmp 2), type := 26, pos := "law.go:220", after := #[{ on := 9, ground := Ground.guard }], guard := some (9, true) }) (v := undef) rfl (by kernel_rfl) (by kernel_rfl) (by kernel_rfl) (fun _ _ _ h => h) (Or.inr ⟨by rfl, rfl⟩) (by assumption) ?_
                try simp only [Act.put, List.setIfInBounds_toArray, List.set_cons_zero, List.set_cons_succ]
                refine wpAnyH_take (i := 11) (oi := { dst := some 95, op := Op.fieldAddr 47 (Operand.tmp 16) 1, type := 0, pos := "law.go:220", after := #[{ on := 9, ground := Ground.guard }], guard := some (9, true) }) (v := undef) rfl (by kernel_rfl) (by kernel_rfl) (by kernel_rfl) (fun _ _ _ h => h) (Or.inr ⟨by rfl, rfl⟩) (by assumption) ?_
                try simp only [Act.put, List.setIfInBounds_toArray, List.set_cons_zero, List.set_cons_succ]
                refine wpAnyH_take (i := 12) (oi := { dst := some 96, op := Op.load 3 (Operand.tmp 95), type := 3, pos := "law.go:220", after := #[{ on := 11, ground := Ground.data }, { on := 9, ground := Ground.guard }], guard := some (9, true) }) (v := undef) rfl (by kernel_rfl) (by kernel_rfl) (by kernel_rfl) (fun _ _ _ h => h) (Or.inr ⟨by rfl, rfl⟩) (by assumption) ?_
                try simp only [Act.put, List.setIfInBounds_toArray, List.set_cons_zero, List.set_cons_succ]
                refine wpAnyH_take (i := 13) (oi := { dst := some 97, op := Op.binOp BinOp.sub 3 (Operand.tmp 96) (Operand.const (Value.int IntKind.i64 1)) 3, type := 3, pos := "law.go:220", after := #[{ on := 12, ground := Ground.data }, { on := 9, ground := Ground.guard }], guard := some (9, true) }) (v := undef) rfl (by kernel_rfl) (by kernel_rfl) (by kernel_rfl) (fun _ _ _ h => h) (Or.inr ⟨by rfl, rfl⟩) (by assumption) ?_
                try simp only [Act.put, List.setIfInBounds_toArray, List.set_cons_zero, List.set_cons_succ]
                refine wpAnyH_take (i := 14) (oi := { dst := some 98, op := Op.indexAddr 26 (Operand.tmp 94) (Operand.tmp 97), type := 0, pos := "law.go:220", after := #[{ on := 10, ground := Ground.data }, { on := 13, ground := Ground.data }, { on := 9, ground := Ground.guard }], guard := some (9, true) }) (v := undef) rfl (by kernel_rfl) (by kernel_rfl) (by kernel_rfl) (fun _ _ _ h => h) (Or.inr ⟨by rfl, rfl⟩) (by assumption) ?_
                try simp only [Act.put, List.setIfInBounds_toArray, List.set_cons_zero, List.set_cons_succ]
                refine wpAnyH_take (i := 15) (oi := { dst := some 99, op := Op.load 4 (Operand.tmp 98), type := 4, pos := "law.go:220", after := #[{ on := 14, ground := Ground.data }, { on := 9, ground := Ground.guard }], guard := some (9, true) }) (v := undef) rfl (by kernel_rfl) (by kernel_rfl) (by kernel_rfl) (fun _ _ _ h => h) (Or.inr ⟨by rfl, rfl⟩) (by assumption) ?_
                try simp only [Act.put, List.setIfInBounds_toArray, List.set_cons_zero, List.set_cons_succ]
                refine wpAnyH_take (i := 16) (oi := { dst := some 100, op := Op.pick (Operand.tmp 93) (Operand.tmp 99) (Operand.const (Value.bool false)), type := 4, pos := "law.go:220", after := #[{ on := 9, ground := Ground.data }, { on := 15, ground := Ground.data }], guard := none }) (v := ?_) rfl (by kernel_rfl) (by kernel_rfl) (by kernel_rfl) (fun _ _ _ h => h) (Or.inl ⟨by rfl, ?_⟩) (by assumption) ?_
                rotate_left 1
                · (intro W hSW; (try dsimp only at hSW); first | (go_simp; done) | (go_simp; with_reducible rfl))
                try simp only [Act.put, List.setIfInBounds_toArray, List.set_cons_zero, List.set_cons_succ]
                refine wpAnyH_take (i := 17) (oi := { dst := some 101, op := Op.indexAddr 26 (Operand.tmp 84) (Operand.tmp 87), type := 0, pos := "law.go:220", after := #[{ on := 0, ground := Ground.data }, { on := 3, ground := Ground.data }, { on := 0, ground := Ground.phase }, { on := 1, ground := Ground.phase }, { on := 2, ground := Ground.phase }, { on := 3, ground := Ground.phase }, { on := 4, ground := Ground.phase }, { on := 5, ground := Ground.phase }, { on := 6, ground := Ground.phase }, { on := 7, ground := Ground.phase }, { on := 8, ground := Ground.phase }, { on := 9, ground := Ground.phase }, { on := 10, ground := Ground.phase }, { on := 11, ground := Ground.phase }, { on := 12, ground := Ground.phase }, { on := 13, ground := Ground.phase }, { on := 14, ground := Ground.phase }, { on := 15, ground := Ground.phase }, { on := 16, ground := Ground.phase }], guard := none }) (v := ?_) rfl (by kernel_rfl) (by kernel_rfl) (by kernel_rfl) (fun _ _ _ h => h) (Or.inl ⟨by rfl, ?_⟩) (by assumption) ?_
                rotate_left 1
                · (intro W hSW; (try dsimp only at hSW); first | (go_simp; done) | (go_simp; with_reducible rfl))
                try simp only [Act.put, List.setIfInBounds_toArray, List.set_cons_zero, List.set_cons_succ]
                refine wpAnyH_ready (rs := [18]) (by kernel_rfl) (by simp) ?_
                refine (AllReadyH.cons (o := { dst := none, op := Op.store 4 (Operand.tmp 101) (Operand.tmp 100), type := 0, pos := "law.go:220", after := #[{ on := 17, ground := Ground.data }, { on := 16, ground := Ground.data }, { on := 9, ground := Ground.chain }, { on := 0, ground := Ground.phase }, { on := 1, ground := Ground.phase }, { on := 2, ground := Ground.phase }, { on := 3, ground := Ground.phase }, { on := 4, ground := Ground.phase }, { on := 5, ground := Ground.phase }, { on := 6, ground := Ground.phase }, { on := 7, ground := Ground.phase }, { on := 8, ground := Ground.phase }, { on := 9, ground := Ground.phase }, { on := 10, ground := Ground.phase }, { on := 11, ground := Ground.phase }, { on := 12, ground := Ground.phase }, { on := 13, ground := Ground.phase }, { on := 14, ground := Ground.phase }, { on := 15, ground := Ground.phase }, { on := 16, ground := Ground.phase }], guard := none }) rfl (fun K hK => ?_) AllReadyH.nil)
                rw [if_pos (by rfl)]
                have c0 := HBA.out.cells i yv HYV.out
                have cf := HBA.out.fr i
                go_simp
                clear c0 cf
                have hgs : wA.grownBy ((wA.setCell ⟨bm, i, none⟩ (.bool false)).drew) (some bm) := World.grownBy.trans (grown_set wA bm i (.bool false)) (grown_any (⟨rfl, rfl, rfl, Nat.le_refl _, fun _ _ _ => rfl⟩ : ((wA.setCell ⟨bm, i, none⟩ (.bool false))).grownBy ((wA.setCell ⟨bm, i, none⟩ (.bool false))).drew none) _)
                refine hK.out _ _ (HS.out _ hgs) (fun hHeld => ?_)
                clear hK K
                try simp only [Act.put, List.setIfInBounds_toArray, List.set_cons_zero, List.set_cons_succ]
                refine wpAnyH_done (by kernel_rfl) ?_ _
                have hEND := hgs
                clear hHeld
                have HBN := Lib.hid ((HBA.out.set HYV.out false).grown (⟨rfl, rfl, rfl, Nat.le_refl _, fun _ _ _ => rfl⟩ : ((wA.setCell ⟨bm, i, none⟩ (.bool false))).grownBy ((wA.setCell ⟨bm, i, none⟩ (.bool false))).drew none) (by simp))
                have HGN := Lib.hid (World.grownBy.trans HGT.out hgs)
                clear hgs hdr hEND
                obtain ⟨wS, hwS⟩ : ∃ w9, (wA.setCell ⟨bm, i, none⟩ (.bool false)).drew = w9 := ⟨_, rfl⟩
                rw [hwS] at HBN HGN ⊢
                clear hwS
                go_wp2_with fail
                go_roundg (g0.length - (k + 1))
                case measure => rw [HI.out]; omega
                case rel => exact ⟨k + 1, Y.set i false, rfl, rfl, by omega, by rw [List.length_set]; exact HAG.out.2, HBN.out, by have h := HAS.out; rw [HVX.out] at h; exact h, HGN.out⟩
            · have e1 := beqF hK1
              have HAS := Lib.hid (HAG.out.1.skip HGG.out (.inr hK1))
              clear hK1
              go_wp2_with fail
              go_roundg (g0.length - (k + 1))
              case measure => rw [HI.out]; omega
              case rel => exact ⟨k + 1, Y, rfl, rfl, by omega, HAG.out.2, HBA.out, HAS.out, HGT.out⟩
        · have f1 : decide (k < g0.length) = false := decide_eq_false hkn
          obtain ⟨p, hp⟩ : ∃ p, evalC g0 vals x = p := ⟨_, rfl⟩
          have HPP := Lib.hid hp
          have HP2 := Lib.hid (show evalC g0 Y x = p from by rw [← hp]; exact (eval_marked HGD.out HMK.out.1 (fun j g hm hg h1 => by rw [HAG.out.1 j g (by have := (List.getElem?_eq_some_iff.1 hg).1; omega) hm hg h1]; rfl) Ox.out HMK.out.2).symm)
          clear hp
          have HBP := Lib.hid (HV0.out.grown HWP.out)
          have HYB := Lib.hid (HBY.out.bools (c := mc) (by rw [HAG.out.2]; exact HLO.out.2))
          go_wp2_with fail
          clear qc
          have HS := Lib.hid (fun (Wh : World) (hWh : wp.grownBy Wh none) => (⟨hWh, hWh.cell HCP.out.1 (by simp)⟩ : (fun Wh : World => wp.grownBy Wh none ∧ Wh.cell? ⟨bc, 0, none⟩ = some (.slice a2 g0.length c2)) Wh))
          have hdr : wp.grownBy wp.drew none := ⟨rfl, rfl, rfl, Nat.le_refl _, fun _ _ _ => rfl⟩
          refine wp_region_held_drew (S := (fun Wh : World => wp.grownBy Wh none ∧ Wh.cell? ⟨bc, 0, none⟩ = some (.slice a2 g0.length c2))) (by kernel_rfl) (HS.out _ hdr) (fun hHeld => ?_)
          refine wpAnyH_take (i := 0) (oi := { dst := some 102, op := Op.move (Operand.tmp 9), type := 4, pos := "law.go:223", after := #[], guard := none }) (v := ?_) rfl (by kernel_rfl) (by kernel_rfl) (by kernel_rfl) (fun _ _ _ h => h) (Or.inl ⟨by rfl, ?_⟩) (by assumption) ?_
          rotate_left 1
          · (intro W hSW; (try dsimp only at hSW); first | (go_simp; done) | (go_simp; with_reducible rfl))
          try simp only [Act.put, List.setIfInBounds_toArray, List.set_cons_zero, List.set_cons_succ]
          refine wpAnyH_take (i := 1) (oi := { dst := some 103, op := Op.move (Operand.tmp 102), type := 4, pos := "law.go:223", after := #[{ on := 0, ground := Ground.data }], guard := none }) (v := ?_) rfl (by kernel_rfl) (by kernel_rfl) (by kernel_rfl) (fun _ _ _ h => h) (Or.inl ⟨by rfl, ?_⟩) (by assumption) ?_
          rotate_left 1
          · (intro W hSW; (try dsimp only at hSW); first | (go_simp; done) | (go_simp; with_reducible rfl))
          try simp only [Act.put, List.setIfInBounds_toArray, List.set_cons_zero, List.set_cons_succ]
          refine wpAnyH_take (i := 2) (oi := { dst := some 104, op := Op.load 25 (Operand.tmp 10), type := 25, pos := "law.go:223", after := #[{ on := 1, ground := Ground.guard }], guard := some (1, true) }) (v := ?_) rfl (by kernel_rfl) (by kernel_rfl) (by kernel_rfl) (fun _ _ _ h => h) (Or.inl ⟨by rfl, ?_⟩) (by assumption) ?_
          rotate_left 1
          · (intro W hSW; (try dsimp only at hSW); first | (go_simp; done) | (go_simp; with_reducible rfl))
          try simp only [Act.put, List.setIfInBounds_toArray, List.set_cons_zero, List.set_cons_succ]
          refine wpAnyH_take (i := 3) (oi := { dst := some 105, op := Op.move (Operand.tmp 2), type := 26, pos := "law.go:223", after := #[{ on := 1, ground := Ground.guard }], guard := some (1, true) }) (v := ?_) rfl (by kernel_rfl) (by kernel_rfl) (by kernel_rfl) (fun _ _ _ h => h) (Or.inl ⟨by rfl, ?_⟩) (by assumption) ?_
          rotate_left 1
          · (intro W hSW; (try dsimp only at hSW); first | (go_simp; done) | (go_simp; with_reducible rfl))
          try simp only [Act.put, List.setIfInBounds_toArray, List.set_cons_zero, List.set_cons_succ]
          refine wpAnyH_take (i := 4) (oi := { dst := some 106, op := Op.move (Operand.tmp 12), type := 3, pos := "law.go:223", after := #[{ on := 1, ground := Ground.guard }], guard := some (1, true) }) (v := ?_) rfl (by kernel_rfl) (by kernel_rfl) (by kernel_rfl) (fun _ _ _ h => h) (Or.inl ⟨by rfl, ?_⟩) (by assumption) ?_
          rotate_left 1
          · (intro W hSW; (try dsimp only at hSW); first | (go_simp; done) | (go_simp; with_reducible rfl))
          try simp only [Act.put, List.setIfInBounds_toArray, List.set_cons_zero, List.set_cons_succ]
          refine wpAnyH_take (i := 6) (oi := { dst := some 108, op := Op.load 25 (Operand.tmp 10), type := 25, pos := "law.go:223", after := #[{ on := 1, ground := Ground.guard }], guard := some (1, true) }) (v := ?_) rfl (by kernel_rfl) (by kernel_rfl) (by kernel_rfl) (fun _ _ _ h => h) (Or.inl ⟨by rfl, ?_⟩) (by assumption) ?_
          rotate_left 1
          · (intro W hSW; (try dsimp only at hSW); first | (go_simp; done) | (go_simp; with_reducible rfl))
          try simp only [Act.put, List.setIfInBounds_toArray, List.set_cons_zero, List.set_cons_succ]
          refine wpAnyH_take (i := 7) (oi := { dst := some 109, op := Op.move (Operand.tmp 14), type := 26, pos := "law.go:223", after := #[{ on := 1, ground := Ground.guard }], guard := some (1, true) }) (v := ?_) rfl (by kernel_rfl) (by kernel_rfl) (by kernel_rfl) (fun _ _ _ h => h) (Or.inl ⟨by rfl, ?_⟩) (by assumption) ?_
          rotate_left 1
          · (intro W hSW; (try dsimp only at hSW); first | (go_simp; done) | (go_simp; with_reducible rfl))
          try simp only [Act.put, List.setIfInBounds_toArray, List.set_cons_zero, List.set_cons_succ]
          refine wpAnyH_take (i := 8) (oi := { dst := some 110, op := Op.move (Operand.tmp 12), type := 3, pos := "law.go:223", after := #[{ on := 1, ground := Ground.guard }], guard := some (1, true) }) (v := ?_) rfl (by kernel_rfl) (by kernel_rfl) (by kernel_rfl) (fun _ _ _ h => h) (Or.inl ⟨by rfl, ?_⟩) (by assumption) ?_
          rotate_left 1
          · (intro W hSW; (try dsimp only at hSW); first | (go_simp; done) | (go_simp; with_reducible rfl))
          try simp only [Act.put, List.setIfInBounds_toArray, List.set_cons_zero, List.set_cons_succ]
          refine wpAnyH_ready (rs := [5]) (by kernel_rfl) (by simp) ?_
          refine (AllReadyH.cons (o := { dst := some 107, op := Op.call { callee := Callee.value (Operand.func 23), args := #[Operand.tmp 104, Operand.tmp 105, Operand.tmp 106], argTypes := #[25, 26, 3] }, type := 4, pos := "law.go:223", after := #[{ on := 2, ground := Ground.data }, { on := 3, ground := Ground.data }, { on := 4, ground := Ground.data }, { on := 1, ground := Ground.chain }, { on := 1, ground := Ground.guard }], guard := some (1, true) }) rfl (fun K hK => ?_) AllReadyH.nil)
          rw [if_pos (by rfl)]
          go_simp
          go_at_call 23
          refine (eval_at4 HNV.out x HPP.out (by have := HL.out; omega) (by rw [HNV.out]; omega) (good_bounds HGD.out (by have := HL.out; omega)) Mx.out (HCP.out.grown hdr).2.2 (HBP.out.grown hdr)).mono ?_
          rintro e wc1 ⟨rfl, gc1⟩
          have hgr1 := World.grownBy.trans hdr gc1
          go_wp2_with fail
          refine hK.out _ _ (HS.out _ hgr1) (fun hHeld => ?_)
          clear hK K
          try simp only [Act.put, List.setIfInBounds_toArray, List.set_cons_zero, List.set_cons_succ]
          refine wpAnyH_ready (rs := [9]) (by kernel_rfl) (by simp) ?_
          refine (AllReadyH.cons (o := { dst := some 111, op := Op.call { callee := Callee.value (Operand.func 23), args := #[Operand.tmp 108, Operand.tmp 109, Operand.tmp 110], argTypes := #[25, 26, 3] }, type := 4, pos := "law.go:223", after := #[{ on := 6, ground := Ground.data }, { on := 7, ground := Ground.data }, { on := 8, ground := Ground.data }, { on := 5, ground := Ground.chain }, { on := 1, ground := Ground.guard }], guard := some (1, true) }) rfl (fun K hK => ?_) AllReadyH.nil)
          rw [if_pos (by rfl)]
          go_simp
          go_at_call 23
          refine (eval_at4 HAG.out.2 x HP2.out (by have := HL.out; omega) (by rw [HAG.out.2]; omega) (good_bounds HGD.out (by have := HL.out; omega)) Mx.out (HCP.out.grown hgr1).2.2 (HYB.out.grown hgr1)).mono ?_
          rintro e wc2 ⟨rfl, gc2⟩
          have hgr2 := World.grownBy.trans hgr1 gc2
          go_wp2_with fail
          refine hK.out _ _ (HS.out _ hgr2) (fun hHeld => ?_)
          clear hK K
          try simp only [Act.put, List.setIfInBounds_toArray, List.set_cons_zero, List.set_cons_succ]
          refine wpAnyH_take (i := 10) (oi := { dst := some 112, op := Op.binOp BinOp.eql 4 (Operand.tmp 107) (Operand.tmp 111) 4, type := 4, pos := "law.go:223", after := #[{ on := 5, ground := Ground.data }, { on := 9, ground := Ground.data }, { on := 1, ground := Ground.guard }], guard := some (1, true) }) (v := ?_) rfl (by kernel_rfl) (by kernel_rfl) (by kernel_rfl) (fun _ _ _ h => h) (Or.inl ⟨by rfl, ?_⟩) (by assumption) ?_
          rotate_left 1
          · (intro W hSW; (try dsimp only at hSW); first | (go_simp; done) | (go_simp; with_reducible rfl))
          try simp only [Act.put, List.setIfInBounds_toArray, List.set_cons_zero, List.set_cons_succ]
          refine wpAnyH_take (i := 11) (oi := { dst := some 113, op := Op.pick (Operand.tmp 103) (Operand.tmp 112) (Operand.const (Value.bool false)), type := 4, pos := "law.go:223", after := #[{ on := 1, ground := Ground.data }, { on := 10, ground := Ground.data }], guard := none }) (v := ?_) rfl (by kernel_rfl) (by kernel_rfl) (by kernel_rfl) (fun _ _ _ h => h) (Or.inl ⟨by rfl, ?_⟩) (by assumption) ?_
          rotate_left 1
          · (intro W hSW; (try dsimp only at hSW); first | (go_simp; done) | (go_simp; with_reducible rfl))
          try simp only [Act.put, List.setIfInBounds_toArray, List.set_cons_zero, List.set_cons_succ]
          refine wpAnyH_take (i := 12) (oi := { dst := some 8, op := Op.assign (Operand.tmp 113), type := 4, pos := "law.go:223", after := #[{ on := 11, ground := Ground.data }, { on := 9, ground := Ground.chain }, { on := 0, ground := Ground.phase }, { on := 1, ground := Ground.phase }, { on := 2, ground := Ground.phase }, { on := 3, ground := Ground.phase }, { on := 4, ground := Ground.phase }, { on := 5, ground := Ground.phase }, { on := 6, ground := Ground.phase }, { on := 7, ground := Ground.phase }, { on := 8, ground := Ground.phase }, { on := 9, ground := Ground.phase }, { on := 10, ground := Ground.phase }, { on := 11, ground := Ground.phase }], guard := none }) (v := ?_) rfl (by kernel_rfl) (by kernel_rfl) (by kernel_rfl) (fun _ _ _ h => h) (Or.inl ⟨by rfl, ?_⟩) (by assumption) ?_
          rotate_left 1
          · (intro W hSW; (try dsimp only at hSW); first | (go_simp; done) | (go_simp; with_reducible rfl))
          try simp only [Act.put, List.setIfInBounds_toArray, List.set_cons_zero, List.set_cons_succ]
          refine wpAnyH_done (by kernel_rfl) ?_ _
          have hEND := hgr2
          clear hHeld
          go_wp2_with fail
          go_ret
          exact ⟨rfl, World.grownBy.trans HWP.out hEND⟩
end Go.Proofs.Ytllljcbdinckgaa
