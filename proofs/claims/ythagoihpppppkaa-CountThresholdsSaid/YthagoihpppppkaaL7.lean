/- The law: thresholds. -/
import Derived.Test.YthagoihpppppkaaT1
import Derived.Deep.DeepCutAuto
namespace Go.Proofs.Ythagoihpppppkaa
open Go.RowKit Go.Maps

theorem num_not {g : List Gt} {v : List Bool} : ∀ {l : List Int}, (∀ r ∈ l, Ok g r) → numV g v (l.map notR) + numV g v l = l.length
  | [], _ => rfl
  | x :: l, h => by
    have ih := num_not (l := l) (v := v) (fun r hr => h r (List.mem_cons_of_mem _ hr))
    have hx := val_not (values := v) (h x (List.mem_cons_self ..))
    unfold numV at *
    simp only [List.map_cons, List.count_cons, List.length_cons, hx]
    generalize List.count true (List.map (valC g v) (List.map notR l)) = p at *
    generalize List.count true (List.map (valC g v) l) = q at *
    cases valC g v x <;> simp <;> omega
set_option maxRecDepth 100000 in
set_option maxHeartbeats 4000000 in
theorem thresholds_calls (l : List Stp) (A B : List Nat) (vals : List Bool) (y : Int) (sa : Option Addr) (sc : Nat) (aa : Option Addr) (ac : Nat) (ba : Option Addr) (bc : Nat) (va : Option Addr) (vc : Nat) (kk : Nat) (w : World) (h : RawIn w l A B vals y sa sc aa ac ba bc va vc) (hk : kk < 256) :
    Calls Try.prog 7 #[.agg #[.slice sa l.length sc, .slice aa A.length ac, .slice ba B.length bc, .slice va vals.length vc, .int .i8 y], .int .u8 (kk : Int)] w fun e w' => e = .returned (.bool true) ∧ w.grownBy w' none := by
  obtain ⟨nl, hnl⟩ : ∃ n, l.length = n := ⟨_, rfl⟩
  obtain ⟨na, hna⟩ : ∃ n, A.length = n := ⟨_, rfl⟩
  obtain ⟨nb, hnb⟩ : ∃ n, B.length = n := ⟨_, rfl⟩
  obtain ⟨nv, hnv⟩ : ∃ n, vals.length = n := ⟨_, rfl⟩
  have HN := Lib.hid (And.intro hnl (And.intro hna (And.intro hnb hnv)))
  rw [hnl, hna, hnb, hnv]
  have hg1 := World.grownBy_alloc w (.cells #[.slice sa nl sc, .slice aa na ac, .slice ba nb bc, .slice va nv vc, .int .i8 y] 27) none
  have hq := raw_cells w sa nl sc aa na ac ba nb bc va nv vc y
  obtain ⟨W1, hW1⟩ : ∃ z, w.alloc (.cells #[.slice sa nl sc, .slice aa na ac, .slice ba nb bc, .slice va nv vc, .int .i8 y] 27) = z := ⟨_, rfl⟩
  rw [hW1] at hg1 hq
  obtain ⟨bX, hbX⟩ : ∃ z, w.heap.size = z := ⟨_, rfl⟩
  rw [hbX] at hq
  have HX := Lib.hid (show RawB W1 bX sa nl sc aa na ac ba nb bc va nv vc y from ⟨hq.1, hq.2.1, hq.2.2.1, hq.2.2.2.1, hq.2.2.2.2⟩)
  have HI := Lib.hid (h.grown hg1)
  have HKK := Lib.hid hk
  have HG := Lib.hid hg1
  clear h hk hg1 hq hnl hna hnb hnv
  go_enter Try.func7, Try.ntmps7
  go_wp2_with fail
  clear hW1 hbX
  refine (head_calls _).mono ?_
  rintro e V1 ⟨rfl, g⟩
  replace HX := Lib.hid (HX.out.grown g)
  replace HI := Lib.hid (HI.out.grown g)
  replace HG := Lib.hid (World.grownBy.trans HG.out g)
  clear g
  have x0 := HX.out.c0
  have x1 := HX.out.c1
  have x2 := HX.out.c2
  have x3 := HX.out.c3
  have x4 := HX.out.c4
  go_wp2_with fail
  clear x0 x1 x2 x3 x4
  refine (great_calls _ sa nl sc aa na ac ba nb bc va nv vc y).mono ?_
  rintro e V2 ⟨rfl, g⟩
  replace HX := Lib.hid (HX.out.grown g)
  replace HI := Lib.hid (HI.out.grown g)
  replace HG := Lib.hid (World.grownBy.trans HG.out g)
  clear g
  cases hgr : greatB nl na nb nv with
  | true =>
    go_wp2_with fail
    go_ret
    exact ⟨rfl, HG.out⟩
  | false =>
    have HGN := Lib.hid (great_no hgr)
    clear hgr
    by_cases hz : na = 0
    · have f0 : (((na : Nat) : Int) == 0) = true := by simp [hz]
      have f1 : (na == 0) = true := by simp [hz]
      have x0 := HX.out.c0
      have x1 := HX.out.c1
      have x2 := HX.out.c2
      have x3 := HX.out.c3
      have x4 := HX.out.c4
      go_wp2_with fail
      clear x0 x1 x2 x3 x4
      go_ret
      exact ⟨rfl, HG.out⟩
    have f0 : (((na : Nat) : Int) == 0) = false := by simp; omega
    have f1 : (na == 0) = false := by simp [hz]
    have x0 := HX.out.c0
    have x1 := HX.out.c1
    have x2 := HX.out.c2
    have x3 := HX.out.c3
    have x4 := HX.out.c4
    go_upto_region 4 with fail
    clear x0 x1 x2 x3 x4
    clear f0 f1
    have HNZ := Lib.hid hz
    have x0 := HX.out.c0
    have x1 := HX.out.c1
    have x2 := HX.out.c2
    have x3 := HX.out.c3
    have x4 := HX.out.c4
    go_wp2_with fail
    clear x0 x1 x2 x3 x4
    obtain ⟨g0, la, lb, hgd, hgl, hoa, hob, hla, hlb, hic⟩ := inputs_n l A B vals y sa sc aa ac ba bc va vc V2 HI.out HN.out.1 HN.out.2.1 HN.out.2.2.1 ⟨HGN.out.1, HGN.out.2.1, HGN.out.2.2.1⟩
    have HGD := Lib.hid hgd
    have HL := Lib.hid hgl
    have OA := Lib.hid hoa
    have OB := Lib.hid hob
    have NA := Lib.hid hla
    have NB := Lib.hid hlb
    have HIC := Lib.hid hic
    clear hgd hgl hoa hob hla hlb hic
    refine HIC.out.mono ?_
    rintro e V3 ⟨a3, c3, b3, d3, b3x, d3x, rfl, hr, hra, hrb, g⟩
    replace HX := Lib.hid (HX.out.grown g)
    replace HI := Lib.hid (HI.out.grown g)
    replace HG := Lib.hid (World.grownBy.trans HG.out g)
    clear g
    have Rla := Lib.hid hra
    have Rlb := Lib.hid hrb
    clear hra hrb HIC
    have x0 := HX.out.c0
    have x1 := HX.out.c1
    have x2 := HX.out.c2
    have x3 := HX.out.c3
    have x4 := HX.out.c4
    go_upto_region 5 with fail
    clear x0 x1 x2 x3 x4
    have hb := CB.new hr
    have g := World.grownBy_alloc V3 (.cells #[.slice a3 g0.length c3] 32) none
    obtain ⟨V4, hV4⟩ : ∃ z, World.alloc V3 (.cells #[.slice a3 g0.length c3] 32) = z := ⟨_, rfl⟩
    rw [hV4] at g hb ⊢
    clear hV4 hr
    obtain ⟨bc, hbb⟩ : ∃ b, V3.heap.size = b := ⟨_, rfl⟩
    rw [hbb] at hb ⊢
    clear hbb
    replace HX := Lib.hid (HX.out.grown g)
    replace HI := Lib.hid (HI.out.grown g)
    replace Rla := Lib.hid (Rla.out.grown g)
    replace Rlb := Lib.hid (Rlb.out.grown g)
    replace HG := Lib.hid (World.grownBy.trans HG.out g)
    clear g
    have Hc := Lib.hid hb
    clear hb
    obtain ⟨r, hr⟩ : ∃ r, kk % na = r := ⟨_, rfl⟩
    have hrn : r < na := by rw [← hr]; exact Nat.mod_lt _ (by omega)
    have HR := Lib.hid hrn
    have HB := Lib.hid (show na ≤ 9 from HGN.out.2.1)
    have wk : IntKind.i64.wrap (kk : Int) = (kk : Int) := IntWalk.i64_in _ (by have := HKK.out; omega)
    have wt : Int.tmod (kk : Int) (na : Int) = (r : Int) := by rw [Int.tmod_eq_emod_of_nonneg (by omega)]; omega
    obtain ⟨m, hm⟩ : ∃ m, r + 1 = m := ⟨_, rfl⟩
    have HM := Lib.hid hm
    have wr1 : IntKind.i64.wrap (r : Int) = (r : Int) := IntWalk.i64_in _ (by have := HB.out; omega)
    have w1 : IntKind.i64.wrap (1 + (r : Int)) = (m : Int) := by rw [IntWalk.i64_in _ (by have := HB.out; omega)]; omega
    have hz2 : ¬ (na : Int) = 0 := by omega
    have qc := Hc.out.1
    have x0 := HX.out.c0
    have x1 := HX.out.c1
    have x2 := HX.out.c2
    have x3 := HX.out.c3
    have x4 := HX.out.c4
    go_upto_region 7 with fail
    clear qc x0 x1 x2 x3 x4
    clear wk wt wr1 w1 hz2 hz hr hrn hm
    have g := World.grownBy_alloc V4 (.cells #[] 3) none
    have ho := World.ownsRow_made (base := V4.heap.size) (e := 3) (size := 1) V4 #[] 0 (Nat.le_refl _) (Nat.zero_le _) rfl
    have qc := Hc.out.1
    have x0 := HX.out.c0
    have x1 := HX.out.c1
    have x2 := HX.out.c2
    have x3 := HX.out.c3
    have x4 := HX.out.c4
    go_upto_region 8 with fail
    clear qc x0 x1 x2 x3 x4
    obtain ⟨V5, hV5⟩ : ∃ z, World.alloc V4 (.cells #[] 3) = z := ⟨_, rfl⟩
    rw [hV5] at g ho ⊢
    clear hV5
    obtain ⟨BN, hBN⟩ : ∃ z, V4.heap.size = z := ⟨_, rfl⟩
    rw [hBN] at ho ⊢
    have HBN := Lib.hid hBN
    clear hBN
    have HGB := Lib.hid g
    have HO := Lib.hid ho
    clear ho
    clear g
    obtain ⟨i0, hi0, hz0, hz1, hz2⟩ := info_parts info3
    have qc := Hc.out.1
    have x0 := HX.out.c0
    have x1 := HX.out.c1
    have x2 := HX.out.c2
    have x3 := HX.out.c3
    have x4 := HX.out.c4
    go_wp2_with fail
    clear qc x0 x1 x2 x3 x4
    go_loopg [11, 12] na (fun gk s11 s12 wr => ∃ (k : Nat) (xa : Option Addr) (xc : Nat), s11 = .slice xa k xc ∧ s12 = .int .i64 (k : Int) ∧ gk = na - k ∧ k ≤ na ∧ wr.ownsRow BN 3 1 (.slice xa k xc) k (intCells ((la.take k).map notR)) ∧ V4.grownBy wr none)
    case atStart => exact ⟨0, _, _, rfl, rfl, rfl, Nat.zero_le _, HO.out, HGB.out⟩
    case round =>
      obtain ⟨k, xa, xc, rfl, rfl, hgk, hk, hown, hgr⟩ := hrel
      have HI2 := Lib.hid hgk; clear hgk
      have HOW := Lib.hid hown; clear hown
      have HGR := Lib.hid hgr; clear hgr
      by_cases hkn : k < na
      · have f1 : decide (k < na) = true := decide_eq_true hkn
        have f2 : decide ((k : Int) < (na : Int)) = true := decide_eq_true (by omega)
        have hk1 : IntKind.i64.wrap ((k : Int) + 1) = ((k + 1 : Nat) : Int) := by rw [IntWalk.i64_in _ (by have := HB.out; omega)]; omega
        have hj0 : (0 : Int) ≤ (k : Int) := by omega
        have hj1 : (k : Int) < (na : Int) := by omega
        obtain ⟨z, hz⟩ : ∃ z, la[k]? = some z := ⟨_, List.getElem?_eq_getElem (by rw [NA.out]; exact hkn)⟩
        obtain ⟨bi, oi, hra, x0⟩ := (Rla.out.grown HGR.out).at hz
        have HST := Lib.hid (show (la.take (k + 1)).map notR = (la.take k).map notR ++ [notR z] from by rw [List.take_add_one, hz, List.map_append]; rfl)
        have HZL := Lib.hid (show z ≤ 9223372036854775807 from ok_i64 (by have := HL.out; omega) (OA.out z (List.mem_of_getElem? hz)))
        obtain ⟨q, hq⟩ : ∃ q, notR z = q := ⟨_, rfl⟩
        have HQ := Lib.hid hq
        rw [hq] at HST
        obtain ⟨La, hLa⟩ : ∃ L, (la.take k).map notR = L := ⟨_, rfl⟩
        rw [hLa] at HST HOW
        clear hLa hq hz
        have hb9 := HB.out
        have HSZ := Lib.hid (show BN ≤ wr.heap.size from by have h := HGR.out.size; have := HBN.out; omega)
        rw [hra]
        go_wp2_with fail
        clear x0
        refine (rnot_at z HZL.out).mono ?_
        rintro e w9 ⟨rfl, hw9⟩
        rw [hw9]
        clear hw9 w9
        rw [HQ.out]
        go_wp2_with (at_builtin; refine wpList_append_own_at _ rfl _ _ 33 rfl BN 3 i0 (.int .i64 0) 1 8 Try.underlying33 hi0 hz0 hz1 hz2 rfl (by decide) _ k (intCells La) rfl (HOW.out.alloc _) ⟨wr.heap.size, 0, none⟩ 1 1 [.int .i64 q] rfl rfl (cell_one_new _ _ _) (fun u hu => by simp at hu; subst hu; rfl) (by unfold maxLen; omega) (by have := HB.out; omega) (by have := HSZ.out; simp; omega) ?_)
        intro v' w6 hown' hgrow6 _ hat6
        obtain ⟨rgA, rcA, rfl⟩ := own_shape hown'
        have haA := World.grownBy_alloc wr (.cells #[.int .i64 q] 3) none
        have HG6 := Lib.hid (show V4.grownBy w6 none from grown_own (World.grownBy.trans HGR.out haA) hgrow6 (fun x e => by have h1 := (HOW.out.lt x e).1; have h2 := HBN.out; omega))
        have HO6 := Lib.hid (show w6.ownsRow BN 3 1 (.slice rgA (k + 1) rcA) (k + 1) (intCells ((la.take (k + 1)).map notR)) from by rw [HST.out, intCells, List.map_append]; exact hown')
        clear hown' hgrow6 haA hat6
        rw [← hra]
        clear hra
        go_wp2_with fail
        go_roundg (na - (k + 1))
        case measure => rw [HI2.out]; omega
        case rel => exact ⟨k + 1, rgA, rcA, rfl, rfl, rfl, by omega, HO6.out, HG6.out⟩
      · have f1 : decide (k < na) = false := decide_eq_false hkn
        have f2 : decide ((k : Int) < (na : Int)) = false := decide_eq_false (by omega)
        have hkna : k = na := by omega
        subst hkna
        have HOE := Lib.hid (show IntsW wr xa xc (la.map notR) from by have h := HOW.out; rw [List.take_of_length_le (by rw [NA.out]; omega)] at h; exact IntsN.weak (IntsN.own (N := fun _ => False) (by rw [List.length_map, NA.out]) h (fun k _ h => h)))
        clear hkn HOW HO HGB
        obtain ⟨U1, hU1⟩ : ∃ z, z = wr := ⟨_, rfl⟩
        rw [← hU1] at HGR HOE ⊢
        clear hU1
        have g := HGR.out
        replace Hc := Lib.hid (Hc.out.grown g)
        replace HX := Lib.hid (HX.out.grown g)
        replace HI := Lib.hid (HI.out.grown g)
        replace Rla := Lib.hid (Rla.out.grown g)
        replace Rlb := Lib.hid (Rlb.out.grown g)
        replace HG := Lib.hid (World.grownBy.trans HG.out g)
        clear g
        have Rno := Lib.hid HOE.out
        have DNO := Lib.hid (show (la.map notR).length = k ∧ ∀ r ∈ la.map notR, Ok g0 r from ⟨by rw [List.length_map, NA.out], fun r hr => by obtain ⟨z, hz, rfl⟩ := List.mem_map.1 hr; exact notR_ok (OA.out z hz)⟩)
        obtain ⟨no, hno⟩ : ∃ n, la.map notR = n := ⟨_, rfl⟩
        obtain ⟨cnt, hcnt⟩ : ∃ c, numV g0 vals la = c := ⟨_, rfl⟩
        have HNN := Lib.hid (show numV g0 vals no + cnt = k from by rw [← hno, ← hcnt, ← NA.out]; exact num_not OA.out)
        rw [hno] at DNO Rno
        have HCN := Lib.hid hcnt
        clear hno hcnt HOE
        obtain ⟨e1, he1⟩ : ∃ z, k - m = z := ⟨_, rfl⟩
        have HE1 := Lib.hid he1
        clear he1
        have qc := Hc.out.1
        have x0 := HX.out.c0
        have x1 := HX.out.c1
        have x2 := HX.out.c2
        have x3 := HX.out.c3
        have x4 := HX.out.c4
        go_upto_region 12 with fail
        clear qc x0 x1 x2 x3 x4
        clear f1 f2
        obtain ⟨rP, eP⟩ : ∃ rr9, (atlP la ((m : Int))).run g0 = rr9 := ⟨_, rfl⟩
        obtain ⟨gP, lP⟩ := rP
        have dP := atl_den eP HGD.out (by have := HL.out; omega) OA.out (by have := NA.out; have := HB.out; omega)
        have hP1 := dP.1.len
        have GP := Lib.hid (show Good gP ∧ gP.length ≤ 500 ∧ lP ≤ 9223372036854775807 from ⟨dP.1.good, by have := HL.out; omega, ok_i64 (by have := HL.out; omega) dP.2.1⟩)
        have EP := Lib.hid (dP.2.2.2.2 vals)
        have HCP := Lib.hid (fun (W : World) (a : Option Addr) (c : Nat) (b : Option Addr) (d : Nat) (hW : GatesW W a c g0) (hr : IntsW W b d la) => atleast_n NA.out eP HGD.out (by have := HL.out; omega) OA.out (by have := NA.out; have := HB.out; omega) hW hr)
        clear eP dP hP1
        have qc := Hc.out.1
        have x0 := HX.out.c0
        have x1 := HX.out.c1
        have x2 := HX.out.c2
        have x3 := HX.out.c3
        have x4 := HX.out.c4
        go_wp2_with fail
        clear qc x0 x1 x2 x3 x4
        refine (HCP.out _ _ _ _ _ Hc.out.2.2 Rla.out).mono ?_
        rintro e V6 ⟨a6, c6, rfl, hr, g⟩
        replace Hc := Lib.hid (Hc.out.grown g)
        replace HX := Lib.hid (HX.out.grown g)
        replace HI := Lib.hid (HI.out.grown g)
        replace Rla := Lib.hid (Rla.out.grown g)
        replace Rlb := Lib.hid (Rlb.out.grown g)
        replace Rno := Lib.hid (Rno.out.grown g)
        replace HG := Lib.hid (World.grownBy.trans HG.out g)
        clear g
        have qc := Hc.out.1
        have x0 := HX.out.c0
        have x1 := HX.out.c1
        have x2 := HX.out.c2
        have x3 := HX.out.c3
        have x4 := HX.out.c4
        go_upto_region 13 with fail
        clear qc x0 x1 x2 x3 x4
        have hb := CB.new hr
        have g := World.grownBy_alloc V6 (.cells #[.slice a6 gP.length c6] 32) none
        obtain ⟨V7, hV7⟩ : ∃ z, World.alloc V6 (.cells #[.slice a6 gP.length c6] 32) = z := ⟨_, rfl⟩
        rw [hV7] at g hb ⊢
        clear hV7 hr
        obtain ⟨bP, hbb⟩ : ∃ b, V6.heap.size = b := ⟨_, rfl⟩
        rw [hbb] at hb ⊢
        clear hbb
        replace Hc := Lib.hid (Hc.out.grown g)
        replace HX := Lib.hid (HX.out.grown g)
        replace HI := Lib.hid (HI.out.grown g)
        replace Rla := Lib.hid (Rla.out.grown g)
        replace Rlb := Lib.hid (Rlb.out.grown g)
        replace Rno := Lib.hid (Rno.out.grown g)
        replace HG := Lib.hid (World.grownBy.trans HG.out g)
        clear g
        have HP := Lib.hid hb
        clear hb
        have u1 : IntKind.i64.wrap ((k : Int) - (m : Int)) = (e1 : Int) := by have := HE1.out; have := HR.out; have := HM.out; have := HB.out; rw [IntWalk.i64_in _ (by omega)]; omega
        have u2 : IntKind.i64.wrap ((e1 : Int) + 1) = ((e1 + 1 : Nat) : Int) := by have := HE1.out; have := HB.out; rw [IntWalk.i64_in _ (by omega)]; omega
        obtain ⟨rQ, eQ⟩ : ∃ rr9, (atlP no (((e1 + 1 : Nat) : Int))).run g0 = rr9 := ⟨_, rfl⟩
        obtain ⟨gQ, lQ⟩ := rQ
        have dQ := atl_den eQ HGD.out (by have := HL.out; omega) DNO.out.2 (by have := DNO.out.1; have := HB.out; omega)
        have hQ1 := dQ.1.len
        have GQ := Lib.hid (show Good gQ ∧ gQ.length ≤ 500 ∧ lQ ≤ 9223372036854775807 from ⟨dQ.1.good, by have := HL.out; omega, ok_i64 (by have := HL.out; omega) dQ.2.1⟩)
        have EQ := Lib.hid (dQ.2.2.2.2 vals)
        have HCQ := Lib.hid (fun (W : World) (a : Option Addr) (c : Nat) (b : Option Addr) (d : Nat) (hW : GatesW W a c g0) (hr : IntsW W b d no) => atleast_n DNO.out.1 eQ HGD.out (by have := HL.out; omega) DNO.out.2 (by have := DNO.out.1; have := HB.out; omega) hW hr)
        clear eQ dQ hQ1
        have qc := Hc.out.1
        have qP := HP.out.1
        have x0 := HX.out.c0
        have x1 := HX.out.c1
        have x2 := HX.out.c2
        have x3 := HX.out.c3
        have x4 := HX.out.c4
        go_wp2_with fail
        clear qc qP x0 x1 x2 x3 x4
        refine (HCQ.out _ _ _ _ _ Hc.out.2.2 Rno.out).mono ?_
        rintro e V8 ⟨a8, c8, rfl, hr, g⟩
        replace Hc := Lib.hid (Hc.out.grown g)
        replace HP := Lib.hid (HP.out.grown g)
        replace HX := Lib.hid (HX.out.grown g)
        replace HI := Lib.hid (HI.out.grown g)
        replace Rla := Lib.hid (Rla.out.grown g)
        replace Rlb := Lib.hid (Rlb.out.grown g)
        replace Rno := Lib.hid (Rno.out.grown g)
        replace HG := Lib.hid (World.grownBy.trans HG.out g)
        clear g
        have qc := Hc.out.1
        have qP := HP.out.1
        have x0 := HX.out.c0
        have x1 := HX.out.c1
        have x2 := HX.out.c2
        have x3 := HX.out.c3
        have x4 := HX.out.c4
        go_upto_region 14 with fail
        clear qc qP x0 x1 x2 x3 x4
        have hb := CB.new hr
        have g := World.grownBy_alloc V8 (.cells #[.slice a8 gQ.length c8] 32) none
        obtain ⟨V9, hV9⟩ : ∃ z, World.alloc V8 (.cells #[.slice a8 gQ.length c8] 32) = z := ⟨_, rfl⟩
        rw [hV9] at g hb ⊢
        clear hV9 hr
        obtain ⟨bQ, hbb⟩ : ∃ b, V8.heap.size = b := ⟨_, rfl⟩
        rw [hbb] at hb ⊢
        clear hbb
        replace Hc := Lib.hid (Hc.out.grown g)
        replace HP := Lib.hid (HP.out.grown g)
        replace HX := Lib.hid (HX.out.grown g)
        replace HI := Lib.hid (HI.out.grown g)
        replace Rla := Lib.hid (Rla.out.grown g)
        replace Rlb := Lib.hid (Rlb.out.grown g)
        replace Rno := Lib.hid (Rno.out.grown g)
        replace HG := Lib.hid (World.grownBy.trans HG.out g)
        clear g
        have HQ := Lib.hid hb
        clear hb
        clear u1 u2
        have u3 : IntKind.i64.wrap ((m : Int) - 1) = (r : Int) := by have := HM.out; have := HR.out; have := HB.out; rw [IntWalk.i64_in _ (by omega)]; omega
        obtain ⟨rO, eO⟩ : ∃ rr9, (atlP la ((r : Int))).run g0 = rr9 := ⟨_, rfl⟩
        obtain ⟨gO, lO⟩ := rO
        have dO := atl_den eO HGD.out (by have := HL.out; omega) OA.out (by have := NA.out; have := HB.out; omega)
        have hO1 := dO.1.len
        have GO := Lib.hid (show Good gO ∧ gO.length ≤ 500 ∧ lO ≤ 9223372036854775807 from ⟨dO.1.good, by have := HL.out; omega, ok_i64 (by have := HL.out; omega) dO.2.1⟩)
        have EO := Lib.hid (dO.2.2.2.2 vals)
        have HCO := Lib.hid (fun (W : World) (a : Option Addr) (c : Nat) (b : Option Addr) (d : Nat) (hW : GatesW W a c g0) (hr : IntsW W b d la) => atleast_n NA.out eO HGD.out (by have := HL.out; omega) OA.out (by have := NA.out; have := HB.out; omega) hW hr)
        clear eO dO hO1
        have qc := Hc.out.1
        have qP := HP.out.1
        have qQ := HQ.out.1
        have x0 := HX.out.c0
        have x1 := HX.out.c1
        have x2 := HX.out.c2
        have x3 := HX.out.c3
        have x4 := HX.out.c4
        go_wp2_with fail
        clear qc qP qQ x0 x1 x2 x3 x4
        refine (HCO.out _ _ _ _ _ Hc.out.2.2 Rla.out).mono ?_
        rintro e V10 ⟨a10, c10, rfl, hr, g⟩
        replace Hc := Lib.hid (Hc.out.grown g)
        replace HP := Lib.hid (HP.out.grown g)
        replace HQ := Lib.hid (HQ.out.grown g)
        replace HX := Lib.hid (HX.out.grown g)
        replace HI := Lib.hid (HI.out.grown g)
        replace Rla := Lib.hid (Rla.out.grown g)
        replace Rlb := Lib.hid (Rlb.out.grown g)
        replace Rno := Lib.hid (Rno.out.grown g)
        replace HG := Lib.hid (World.grownBy.trans HG.out g)
        clear g
        have qc := Hc.out.1
        have qP := HP.out.1
        have qQ := HQ.out.1
        have x0 := HX.out.c0
        have x1 := HX.out.c1
        have x2 := HX.out.c2
        have x3 := HX.out.c3
        have x4 := HX.out.c4
        go_upto_region 15 with fail
        clear qc qP qQ x0 x1 x2 x3 x4
        have hb := CB.new hr
        have g := World.grownBy_alloc V10 (.cells #[.slice a10 gO.length c10] 32) none
        obtain ⟨V11, hV11⟩ : ∃ z, World.alloc V10 (.cells #[.slice a10 gO.length c10] 32) = z := ⟨_, rfl⟩
        rw [hV11] at g hb ⊢
        clear hV11 hr
        obtain ⟨bO, hbb⟩ : ∃ b, V10.heap.size = b := ⟨_, rfl⟩
        rw [hbb] at hb ⊢
        clear hbb
        replace Hc := Lib.hid (Hc.out.grown g)
        replace HP := Lib.hid (HP.out.grown g)
        replace HQ := Lib.hid (HQ.out.grown g)
        replace HX := Lib.hid (HX.out.grown g)
        replace HI := Lib.hid (HI.out.grown g)
        replace Rla := Lib.hid (Rla.out.grown g)
        replace Rlb := Lib.hid (Rlb.out.grown g)
        replace Rno := Lib.hid (Rno.out.grown g)
        replace HG := Lib.hid (World.grownBy.trans HG.out g)
        clear g
        have HO := Lib.hid hb
        clear hb
        clear u3
        obtain ⟨rSo, eSo⟩ : ∃ rr9, (sorterP la).run g0 = rr9 := ⟨_, rfl⟩
        obtain ⟨gSo, lSo⟩ := rSo
        have dSo := sorter_den eSo HGD.out (by have := HL.out; omega) OA.out (by have := NA.out; have := HB.out; omega)
        have hSo1 := dSo.1.len
        have GSo := Lib.hid (show Good gSo ∧ gSo.length ≤ 500 ∧ lSo.length = k from ⟨dSo.1.good, by have := HL.out; omega, by rw [dSo.2.1, NA.out]⟩)
        have DSo := Lib.hid (show Den gSo vals lSo cnt from by rw [← HCN.out]; exact dSo.2.2 vals)
        have HCSo := Lib.hid (fun (W : World) (a : Option Addr) (c : Nat) (b : Option Addr) (d : Nat) (hW : GatesW W a c g0) (hr : IntsW W b d la) => sorter_n NA.out eSo HGD.out (by have := HL.out; omega) OA.out (by have := NA.out; have := HB.out; omega) hW hr)
        clear eSo dSo hSo1
        have qc := Hc.out.1
        have qP := HP.out.1
        have qQ := HQ.out.1
        have qO := HO.out.1
        have x0 := HX.out.c0
        have x1 := HX.out.c1
        have x2 := HX.out.c2
        have x3 := HX.out.c3
        have x4 := HX.out.c4
        go_wp2_with fail
        clear qc qP qQ qO x0 x1 x2 x3 x4
        refine (HCSo.out _ _ _ _ _ Hc.out.2.2 Rla.out).mono ?_
        rintro e V12 ⟨a12, c12, b12, d12, rfl, hr, hrow, g⟩
        replace Hc := Lib.hid (Hc.out.grown g)
        replace HP := Lib.hid (HP.out.grown g)
        replace HQ := Lib.hid (HQ.out.grown g)
        replace HO := Lib.hid (HO.out.grown g)
        replace HX := Lib.hid (HX.out.grown g)
        replace HI := Lib.hid (HI.out.grown g)
        replace Rla := Lib.hid (Rla.out.grown g)
        replace Rlb := Lib.hid (Rlb.out.grown g)
        replace Rno := Lib.hid (Rno.out.grown g)
        replace HG := Lib.hid (World.grownBy.trans HG.out g)
        clear g
        have RlSo := Lib.hid hrow
        clear hrow
        have qc := Hc.out.1
        have qP := HP.out.1
        have qQ := HQ.out.1
        have qO := HO.out.1
        have x0 := HX.out.c0
        have x1 := HX.out.c1
        have x2 := HX.out.c2
        have x3 := HX.out.c3
        have x4 := HX.out.c4
        go_upto_region 16 with fail
        clear qc qP qQ qO x0 x1 x2 x3 x4
        have hb := CB.new hr
        have g := World.grownBy_alloc V12 (.cells #[.slice a12 gSo.length c12] 32) none
        obtain ⟨V13, hV13⟩ : ∃ z, World.alloc V12 (.cells #[.slice a12 gSo.length c12] 32) = z := ⟨_, rfl⟩
        rw [hV13] at g hb ⊢
        clear hV13 hr
        obtain ⟨bSo, hbb⟩ : ∃ b, V12.heap.size = b := ⟨_, rfl⟩
        rw [hbb] at hb ⊢
        clear hbb
        replace Hc := Lib.hid (Hc.out.grown g)
        replace HP := Lib.hid (HP.out.grown g)
        replace HQ := Lib.hid (HQ.out.grown g)
        replace HO := Lib.hid (HO.out.grown g)
        replace HX := Lib.hid (HX.out.grown g)
        replace HI := Lib.hid (HI.out.grown g)
        replace Rla := Lib.hid (Rla.out.grown g)
        replace Rlb := Lib.hid (Rlb.out.grown g)
        replace Rno := Lib.hid (Rno.out.grown g)
        replace RlSo := Lib.hid (RlSo.out.grown g)
        replace HG := Lib.hid (World.grownBy.trans HG.out g)
        clear g
        have HSo := Lib.hid hb
        clear hb
        obtain ⟨rT, eT⟩ : ∃ rr9, (totalP 6 la).run g0 = rr9 := ⟨_, rfl⟩
        obtain ⟨gT, lT⟩ := rT
        have cT := costT9 la.length (by have := NA.out; have := HB.out; omega)
        have dT := total_den eT HGD.out (by have := HL.out; omega) OA.out (by have := NA.out; have := HB.out; omega)
        have hT1 := dT.1.len
        have GT := Lib.hid (show Good gT ∧ gT.length ≤ 500 ∧ lT.length = k from ⟨dT.1.good, by have := HL.out; omega, by rw [dT.2.1, NA.out]⟩)
        have DT := Lib.hid (show Den gT vals lT cnt from by rw [← HCN.out]; exact dT.2.2 vals)
        have HCT := Lib.hid (fun (W : World) (a : Option Addr) (c : Nat) (b : Option Addr) (d : Nat) (hW : GatesW W a c g0) (hr : IntsW W b d la) => totalizer_n NA.out eT HGD.out OA.out (by have := NA.out; have := HB.out; omega) (by have := HL.out; omega) hW hr)
        clear eT cT dT hT1
        have qc := Hc.out.1
        have qP := HP.out.1
        have qQ := HQ.out.1
        have qO := HO.out.1
        have qSo := HSo.out.1
        have x0 := HX.out.c0
        have x1 := HX.out.c1
        have x2 := HX.out.c2
        have x3 := HX.out.c3
        have x4 := HX.out.c4
        go_wp2_with fail
        clear qc qP qQ qO qSo x0 x1 x2 x3 x4
        refine (HCT.out _ _ _ _ _ Hc.out.2.2 Rla.out).mono ?_
        rintro e V14 ⟨a14, c14, b14, d14, rfl, hr, hrow, g⟩
        replace Hc := Lib.hid (Hc.out.grown g)
        replace HP := Lib.hid (HP.out.grown g)
        replace HQ := Lib.hid (HQ.out.grown g)
        replace HO := Lib.hid (HO.out.grown g)
        replace HSo := Lib.hid (HSo.out.grown g)
        replace HX := Lib.hid (HX.out.grown g)
        replace HI := Lib.hid (HI.out.grown g)
        replace Rla := Lib.hid (Rla.out.grown g)
        replace Rlb := Lib.hid (Rlb.out.grown g)
        replace Rno := Lib.hid (Rno.out.grown g)
        replace RlSo := Lib.hid (RlSo.out.grown g)
        replace HG := Lib.hid (World.grownBy.trans HG.out g)
        clear g
        have RlT := Lib.hid hrow
        clear hrow
        have qc := Hc.out.1
        have qP := HP.out.1
        have qQ := HQ.out.1
        have qO := HO.out.1
        have qSo := HSo.out.1
        have x0 := HX.out.c0
        have x1 := HX.out.c1
        have x2 := HX.out.c2
        have x3 := HX.out.c3
        have x4 := HX.out.c4
        go_upto_region 17 with fail
        clear qc qP qQ qO qSo x0 x1 x2 x3 x4
        have hb := CB.new hr
        have g := World.grownBy_alloc V14 (.cells #[.slice a14 gT.length c14] 32) none
        obtain ⟨V15, hV15⟩ : ∃ z, World.alloc V14 (.cells #[.slice a14 gT.length c14] 32) = z := ⟨_, rfl⟩
        rw [hV15] at g hb ⊢
        clear hV15 hr
        obtain ⟨bT, hbb⟩ : ∃ b, V14.heap.size = b := ⟨_, rfl⟩
        rw [hbb] at hb ⊢
        clear hbb
        replace Hc := Lib.hid (Hc.out.grown g)
        replace HP := Lib.hid (HP.out.grown g)
        replace HQ := Lib.hid (HQ.out.grown g)
        replace HO := Lib.hid (HO.out.grown g)
        replace HSo := Lib.hid (HSo.out.grown g)
        replace HX := Lib.hid (HX.out.grown g)
        replace HI := Lib.hid (HI.out.grown g)
        replace Rla := Lib.hid (Rla.out.grown g)
        replace Rlb := Lib.hid (Rlb.out.grown g)
        replace Rno := Lib.hid (Rno.out.grown g)
        replace RlSo := Lib.hid (RlSo.out.grown g)
        replace RlT := Lib.hid (RlT.out.grown g)
        replace HG := Lib.hid (World.grownBy.trans HG.out g)
        clear g
        have HT := Lib.hid hb
        clear hb
        have fe : (((k : Nat) : Int) == ((k : Nat) : Int)) = true := by simp
        have fe2 : (k == k) = true := by simp
        have qc := Hc.out.1
        have qP := HP.out.1
        have qQ := HQ.out.1
        have qO := HO.out.1
        have qSo := HSo.out.1
        have qT := HT.out.1
        have x0 := HX.out.c0
        have x1 := HX.out.c1
        have x2 := HX.out.c2
        have x3 := HX.out.c3
        have x4 := HX.out.c4
        go_upto_region 19 with fail
        clear qc qP qQ qO qSo qT x0 x1 x2 x3 x4
        clear fe fe2
        obtain ⟨xs, hxs⟩ : ∃ x, lSo[r]? = some x := ⟨_, List.getElem?_eq_getElem (by have := GSo.out.2.2; have := HR.out; omega)⟩
        obtain ⟨xt, hxt⟩ : ∃ x, lT[r]? = some x := ⟨_, List.getElem?_eq_getElem (by have := GT.out.2.2; have := HR.out; omega)⟩
        obtain ⟨yv, hyv⟩ : ∃ p, decide (m ≤ cnt) = p := ⟨_, rfl⟩
        have FP := Lib.hid (show evalC gP vals lP = yv from by rw [EP.out, HCN.out, ← hyv]; exact decide_eq_decide.2 (by omega))
        have FS := Lib.hid (show evalC gSo vals xs = yv from by rw [DSo.out.at hxs, ← hyv]; exact decide_eq_decide.2 (by have := HM.out; omega))
        have FT := Lib.hid (show evalC gT vals xt = yv from by rw [DT.out.at hxt, ← hyv]; exact decide_eq_decide.2 (by have := HM.out; omega))
        have FQ := Lib.hid (show evalC gQ vals lQ = !yv from by rw [EQ.out, ← hyv, ← decide_not]; exact decide_eq_decide.2 (by have := HNN.out; have := HE1.out; have := HM.out; have := HR.out; omega))
        have FO := Lib.hid (show yv = true → evalC gO vals lO = true from fun h => by rw [EO.out, HCN.out]; rw [h] at hyv; have h2 := of_decide_eq_true hyv; exact decide_eq_true (by have := HM.out; omega))
        have XS := Lib.hid (And.intro hxs (show xs ≤ 9223372036854775807 from ok_i64 (by have := GSo.out.2.1; omega) (DSo.out.2.2 _ (List.mem_of_getElem? hxs))))
        have XT := Lib.hid (And.intro hxt (show xt ≤ 9223372036854775807 from ok_i64 (by have := GT.out.2.1; omega) (DT.out.2.2 _ (List.mem_of_getElem? hxt))))
        have HNV := Lib.hid HN.out.2.2.2
        have HV20 := Lib.hid (show vals.length ≤ 1000 from by have := HN.out.2.2.2; have := HGN.out.2.2.2; omega)
        clear hxs hxt hyv EP EQ EO
        have qc := Hc.out.1
        have qP := HP.out.1
        have qQ := HQ.out.1
        have qO := HO.out.1
        have qSo := HSo.out.1
        have qT := HT.out.1
        have x0 := HX.out.c0
        have x1 := HX.out.c1
        have x2 := HX.out.c2
        have x3 := HX.out.c3
        have x4 := HX.out.c4
        go_wp2_with fail
        clear qc qP qQ qO qSo qT x0 x1 x2 x3 x4
        refine (reval_n gP vals lP yv HNV.out FP.out (by have := GP.out.2.1; omega) HV20.out GP.out.1 GP.out.2.2 HP.out.2.2 HI.out.v).mono ?_
        rintro e V16 ⟨rfl, g⟩
        replace Hc := Lib.hid (Hc.out.grown g)
        replace HP := Lib.hid (HP.out.grown g)
        replace HQ := Lib.hid (HQ.out.grown g)
        replace HO := Lib.hid (HO.out.grown g)
        replace HSo := Lib.hid (HSo.out.grown g)
        replace HT := Lib.hid (HT.out.grown g)
        replace HX := Lib.hid (HX.out.grown g)
        replace HI := Lib.hid (HI.out.grown g)
        replace Rla := Lib.hid (Rla.out.grown g)
        replace Rlb := Lib.hid (Rlb.out.grown g)
        replace Rno := Lib.hid (Rno.out.grown g)
        replace RlSo := Lib.hid (RlSo.out.grown g)
        replace RlT := Lib.hid (RlT.out.grown g)
        replace HG := Lib.hid (World.grownBy.trans HG.out g)
        clear g
        have qc := Hc.out.1
        have qP := HP.out.1
        have qQ := HQ.out.1
        have qO := HO.out.1
        have qSo := HSo.out.1
        have qT := HT.out.1
        have x0 := HX.out.c0
        have x1 := HX.out.c1
        have x2 := HX.out.c2
        have x3 := HX.out.c3
        have x4 := HX.out.c4
        go_upto_region 20 with fail
        clear qc qP qQ qO qSo qT x0 x1 x2 x3 x4
        obtain ⟨bs, os, hbs, xs0⟩ := RlSo.out.at XS.out.1
        obtain ⟨bt, ot, hbt, xt0⟩ := RlT.out.at XT.out.1
        have u3 : IntKind.i64.wrap ((m : Int) - 1) = (r : Int) := by have := HM.out; have := HR.out; have := HB.out; rw [IntWalk.i64_in _ (by omega)]; omega
        have j0 : (0 : Int) ≤ (r : Int) := by omega
        have j1 : (r : Int) < (k : Int) := by have := HR.out; omega
        have HXS := Lib.hid xs0
        have HXT := Lib.hid xt0
        subst hbs hbt
        clear xs0 xt0
        cases yv with
        | true =>
          have HS := Lib.hid (fun (Wh : World) (hWh : V16.grownBy Wh none) => (⟨hWh, hWh.cell HSo.out.1 (by simp), hWh.cell HT.out.1 (by simp), hWh.cell HQ.out.1 (by simp), hWh.cell HO.out.1 (by simp), hWh.cell HX.out.c3 (by simp), hWh.cell HXS.out (by simp), hWh.cell HXT.out (by simp)⟩ : (fun Wh : World => V16.grownBy Wh none ∧ Wh.cell? ⟨bSo, 0, none⟩ = some (.slice a12 gSo.length c12) ∧ Wh.cell? ⟨bT, 0, none⟩ = some (.slice a14 gT.length c14) ∧ Wh.cell? ⟨bQ, 0, none⟩ = some (.slice a8 gQ.length c8) ∧ Wh.cell? ⟨bO, 0, none⟩ = some (.slice a10 gO.length c10) ∧ Wh.cell? ⟨bX, 3, none⟩ = some (.slice va nv vc) ∧ Wh.cell? ⟨bs, os + r, none⟩ = some (.int .i64 xs) ∧ Wh.cell? ⟨bt, ot + r, none⟩ = some (.int .i64 xt)) Wh))
          have hdr : V16.grownBy V16.drew none := ⟨rfl, rfl, rfl, Nat.le_refl _, fun _ _ _ => rfl⟩
          refine wp_region_held_drew (S := (fun Wh : World => V16.grownBy Wh none ∧ Wh.cell? ⟨bSo, 0, none⟩ = some (.slice a12 gSo.length c12) ∧ Wh.cell? ⟨bT, 0, none⟩ = some (.slice a14 gT.length c14) ∧ Wh.cell? ⟨bQ, 0, none⟩ = some (.slice a8 gQ.length c8) ∧ Wh.cell? ⟨bO, 0, none⟩ = some (.slice a10 gO.length c10) ∧ Wh.cell? ⟨bX, 3, none⟩ = some (.slice va nv vc) ∧ Wh.cell? ⟨bs, os + r, none⟩ = some (.int .i64 xs) ∧ Wh.cell? ⟨bt, ot + r, none⟩ = some (.int .i64 xt))) (by kernel_rfl) (HS.out _ hdr) (fun hHeld => ?_)
          refine wpAnyH_take (i := 0) (oi := { dst := some 113, op := Op.move (Operand.tmp 5), type := 4, pos := "law.go:230", after := #[], guard := none }) (v := ?_) rfl (by kernel_rfl) (by kernel_rfl) (by kernel_rfl) (fun _ _ _ h => h) (Or.inl ⟨by rfl, ?_⟩) (by assumption) ?_
          rotate_left 1
          · (intro W hSW; (try dsimp only at hSW); first | (go_simp; done) | (go_simp; with_reducible rfl))
          try simp only [Act.put, List.setIfInBounds_toArray, List.set_cons_zero, List.set_cons_succ]
          refine wpAnyH_take (i := 1) (oi := { dst := some 114, op := Op.move (Operand.tmp 113), type := 4, pos := "law.go:230", after := #[{ on := 0, ground := Ground.data }], guard := none }) (v := ?_) rfl (by kernel_rfl) (by kernel_rfl) (by kernel_rfl) (fun _ _ _ h => h) (Or.inl ⟨by rfl, ?_⟩) (by assumption) ?_
          rotate_left 1
          · (intro W hSW; (try dsimp only at hSW); first | (go_simp; done) | (go_simp; with_reducible rfl))
          try simp only [Act.put, List.setIfInBounds_toArray, List.set_cons_zero, List.set_cons_succ]
          refine wpAnyH_take (i := 2) (oi := { dst := some 115, op := Op.load 32 (Operand.tmp 19), type := 32, pos := "law.go:230", after := #[{ on := 1, ground := Ground.guard }], guard := some (1, true) }) (v := ?_) rfl (by kernel_rfl) (by kernel_rfl) (by kernel_rfl) (fun _ _ _ h => h) (Or.inl ⟨by rfl, ?_⟩) (by assumption) ?_
          rotate_left 1
          · (intro W hSW; (try dsimp only at hSW); first | (go_simp; done) | (go_simp; with_reducible rfl))
          try simp only [Act.put, List.setIfInBounds_toArray, List.set_cons_zero, List.set_cons_succ]
          refine wpAnyH_take (i := 3) (oi := { dst := some 116, op := Op.fieldAddr 27 (Operand.tmp 2) 3, type := 0, pos := "law.go:230", after := #[{ on := 1, ground := Ground.guard }], guard := some (1, true) }) (v := ?_) rfl (by kernel_rfl) (by kernel_rfl) (by kernel_rfl) (fun _ _ _ h => h) (Or.inl ⟨by rfl, ?_⟩) (by assumption) ?_
          rotate_left 1
          · (intro W hSW; (try dsimp only at hSW); first | (go_simp; done) | (go_simp; with_reducible rfl))
          try simp only [Act.put, List.setIfInBounds_toArray, List.set_cons_zero, List.set_cons_succ]
          refine wpAnyH_take (i := 4) (oi := { dst := some 117, op := Op.load 24 (Operand.tmp 116), type := 24, pos := "law.go:230", after := #[{ on := 3, ground := Ground.data }, { on := 1, ground := Ground.guard }], guard := some (1, true) }) (v := ?_) rfl (by kernel_rfl) (by kernel_rfl) (by kernel_rfl) (fun _ _ _ h => h) (Or.inl ⟨by rfl, ?_⟩) (by assumption) ?_
          rotate_left 1
          · (intro W hSW; (try dsimp only at hSW); first | (go_simp; done) | (go_simp; with_reducible rfl))
          try simp only [Act.put, List.setIfInBounds_toArray, List.set_cons_zero, List.set_cons_succ]
          refine wpAnyH_take (i := 5) (oi := { dst := some 118, op := Op.move (Operand.tmp 20), type := 33, pos := "law.go:230", after := #[{ on := 1, ground := Ground.guard }], guard := some (1, true) }) (v := ?_) rfl (by kernel_rfl) (by kernel_rfl) (by kernel_rfl) (fun _ _ _ h => h) (Or.inl ⟨by rfl, ?_⟩) (by assumption) ?_
          rotate_left 1
          · (intro W hSW; (try dsimp only at hSW); first | (go_simp; done) | (go_simp; with_reducible rfl))
          try simp only [Act.put, List.setIfInBounds_toArray, List.set_cons_zero, List.set_cons_succ]
          refine wpAnyH_take (i := 6) (oi := { dst := some 119, op := Op.move (Operand.tmp 10), type := 3, pos := "law.go:230", after := #[{ on := 1, ground := Ground.guard }], guard := some (1, true) }) (v := ?_) rfl (by kernel_rfl) (by kernel_rfl) (by kernel_rfl) (fun _ _ _ h => h) (Or.inl ⟨by rfl, ?_⟩) (by assumption) ?_
          rotate_left 1
          · (intro W hSW; (try dsimp only at hSW); first | (go_simp; done) | (go_simp; with_reducible rfl))
          try simp only [Act.put, List.setIfInBounds_toArray, List.set_cons_zero, List.set_cons_succ]
          refine wpAnyH_take (i := 7) (oi := { dst := some 120, op := Op.binOp BinOp.sub 3 (Operand.tmp 119) (Operand.const (Value.int IntKind.i64 1)) 3, type := 3, pos := "law.go:230", after := #[{ on := 6, ground := Ground.data }, { on := 1, ground := Ground.guard }], guard := some (1, true) }) (v := ?_) rfl (by kernel_rfl) (by kernel_rfl) (by kernel_rfl) (fun _ _ _ h => h) (Or.inl ⟨by rfl, ?_⟩) (by assumption) ?_
          rotate_left 1
          · (intro W hSW; (try dsimp only at hSW); first | (go_simp; done) | (go_simp; with_reducible rfl))
          try simp only [Act.put, List.setIfInBounds_toArray, List.set_cons_zero, List.set_cons_succ]
          refine wpAnyH_take (i := 8) (oi := { dst := some 121, op := Op.indexAddr 33 (Operand.tmp 118) (Operand.tmp 120), type := 0, pos := "law.go:230", after := #[{ on := 5, ground := Ground.data }, { on := 7, ground := Ground.data }, { on := 1, ground := Ground.guard }], guard := some (1, true) }) (v := ?_) rfl (by kernel_rfl) (by kernel_rfl) (by kernel_rfl) (fun _ _ _ h => h) (Or.inl ⟨by rfl, ?_⟩) (by assumption) ?_
          rotate_left 1
          · (intro W hSW; (try dsimp only at hSW); first | (go_simp; done) | (go_simp; with_reducible rfl))
          try simp only [Act.put, List.setIfInBounds_toArray, List.set_cons_zero, List.set_cons_succ]
          refine wpAnyH_take (i := 9) (oi := { dst := some 122, op := Op.load 3 (Operand.tmp 121), type := 3, pos := "law.go:230", after := #[{ on := 8, ground := Ground.data }, { on := 1, ground := Ground.guard }], guard := some (1, true) }) (v := ?_) rfl (by kernel_rfl) (by kernel_rfl) (by kernel_rfl) (fun _ _ _ h => h) (Or.inl ⟨by rfl, ?_⟩) (by assumption) ?_
          rotate_left 1
          · (intro W hSW; (try dsimp only at hSW); first | (go_simp; done) | (go_simp; with_reducible rfl))
          try simp only [Act.put, List.setIfInBounds_toArray, List.set_cons_zero, List.set_cons_succ]
          refine wpAnyH_take (i := 11) (oi := { dst := some 124, op := Op.move (Operand.tmp 23), type := 4, pos := "law.go:230", after := #[{ on := 1, ground := Ground.guard }], guard := some (1, true) }) (v := ?_) rfl (by kernel_rfl) (by kernel_rfl) (by kernel_rfl) (fun _ _ _ h => h) (Or.inl ⟨by rfl, ?_⟩) (by assumption) ?_
          rotate_left 1
          · (intro W hSW; (try dsimp only at hSW); first | (go_simp; done) | (go_simp; with_reducible rfl))
          try simp only [Act.put, List.setIfInBounds_toArray, List.set_cons_zero, List.set_cons_succ]
          refine wpAnyH_ready (rs := [10]) (by kernel_rfl) (by simp) ?_
          refine (AllReadyH.cons (o := { dst := some 123, op := Op.call { callee := Callee.value (Operand.func 18), args := #[Operand.tmp 115, Operand.tmp 117, Operand.tmp 122], argTypes := #[32, 24, 3] }, type := 4, pos := "law.go:230", after := #[{ on := 2, ground := Ground.data }, { on := 4, ground := Ground.data }, { on := 9, ground := Ground.data }, { on := 1, ground := Ground.chain }, { on := 1, ground := Ground.guard }], guard := some (1, true) }) rfl (fun K hK => ?_) AllReadyH.nil)
          rw [if_pos (by rfl)]
          go_simp
          go_at_call 18
          refine (reval_n gSo vals xs true HNV.out FS.out (by have := GSo.out.2.1; omega) HV20.out GSo.out.1 XS.out.2 ((HSo.out.grown hdr).2.2) (HI.out.v.grown hdr)).mono ?_
          rintro e wc1 ⟨rfl, gc1⟩
          have hgr1 := World.grownBy.trans hdr gc1
          go_wp2_with fail
          refine hK.out _ _ (HS.out _ hgr1) (fun hHeld => ?_)
          clear hK K
          try simp only [Act.put, List.setIfInBounds_toArray, List.set_cons_zero, List.set_cons_succ]
          refine wpAnyH_take (i := 12) (oi := { dst := some 125, op := Op.binOp BinOp.eql 4 (Operand.tmp 123) (Operand.tmp 124) 4, type := 4, pos := "law.go:230", after := #[{ on := 10, ground := Ground.data }, { on := 11, ground := Ground.data }, { on := 1, ground := Ground.guard }], guard := some (1, true) }) (v := ?_) rfl (by kernel_rfl) (by kernel_rfl) (by kernel_rfl) (fun _ _ _ h => h) (Or.inl ⟨by rfl, ?_⟩) (by assumption) ?_
          rotate_left 1
          · (intro W hSW; (try dsimp only at hSW); first | (go_simp; done) | (go_simp; with_reducible rfl))
          try simp only [Act.put, List.setIfInBounds_toArray, List.set_cons_zero, List.set_cons_succ]
          refine wpAnyH_take (i := 13) (oi := { dst := some 126, op := Op.pick (Operand.tmp 114) (Operand.tmp 125) (Operand.const (Value.bool false)), type := 4, pos := "law.go:230", after := #[{ on := 1, ground := Ground.data }, { on := 12, ground := Ground.data }], guard := none }) (v := ?_) rfl (by kernel_rfl) (by kernel_rfl) (by kernel_rfl) (fun _ _ _ h => h) (Or.inl ⟨by rfl, ?_⟩) (by assumption) ?_
          rotate_left 1
          · (intro W hSW; (try dsimp only at hSW); first | (go_simp; done) | (go_simp; with_reducible rfl))
          try simp only [Act.put, List.setIfInBounds_toArray, List.set_cons_zero, List.set_cons_succ]
          refine wpAnyH_take (i := 14) (oi := { dst := some 127, op := Op.move (Operand.tmp 126), type := 4, pos := "law.go:230", after := #[{ on := 13, ground := Ground.data }, { on := 10, ground := Ground.chain }], guard := none }) (v := ?_) rfl (by kernel_rfl) (by kernel_rfl) (by kernel_rfl) (fun _ _ _ h => h) (Or.inl ⟨by rfl, ?_⟩) (by assumption) ?_
          rotate_left 1
          · (intro W hSW; (try dsimp only at hSW); first | (go_simp; done) | (go_simp; with_reducible rfl))
          try simp only [Act.put, List.setIfInBounds_toArray, List.set_cons_zero, List.set_cons_succ]
          refine wpAnyH_take (i := 15) (oi := { dst := some 128, op := Op.load 32 (Operand.tmp 21), type := 32, pos := "law.go:230", after := #[{ on := 14, ground := Ground.guard }], guard := some (14, true) }) (v := ?_) rfl (by kernel_rfl) (by kernel_rfl) (by kernel_rfl) (fun _ _ _ h => h) (Or.inl ⟨by rfl, ?_⟩) (by assumption) ?_
          rotate_left 1
          · (intro W hSW; (try dsimp only at hSW); first | (go_simp; done) | (go_simp; with_reducible rfl))
          try simp only [Act.put, List.setIfInBounds_toArray, List.set_cons_zero, List.set_cons_succ]
          refine wpAnyH_take (i := 16) (oi := { dst := some 129, op := Op.fieldAddr 27 (Operand.tmp 2) 3, type := 0, pos := "law.go:230", after := #[{ on := 14, ground := Ground.guard }], guard := some (14, true) }) (v := ?_) rfl (by kernel_rfl) (by kernel_rfl) (by kernel_rfl) (fun _ _ _ h => h) (Or.inl ⟨by rfl, ?_⟩) (by assumption) ?_
          rotate_left 1
          · (intro W hSW; (try dsimp only at hSW); first | (go_simp; done) | (go_simp; with_reducible rfl))
          try simp only [Act.put, List.setIfInBounds_toArray, List.set_cons_zero, List.set_cons_succ]
          refine wpAnyH_take (i := 17) (oi := { dst := some 130, op := Op.load 24 (Operand.tmp 129), type := 24, pos := "law.go:230", after := #[{ on := 16, ground := Ground.data }, { on := 14, ground := Ground.guard }], guard := some (14, true) }) (v := ?_) rfl (by kernel_rfl) (by kernel_rfl) (by kernel_rfl) (fun _ _ _ h => h) (Or.inl ⟨by rfl, ?_⟩) (by assumption) ?_
          rotate_left 1
          · (intro W hSW; (try dsimp only at hSW); first | (go_simp; done) | (go_simp; with_reducible rfl))
          try simp only [Act.put, List.setIfInBounds_toArray, List.set_cons_zero, List.set_cons_succ]
          refine wpAnyH_take (i := 18) (oi := { dst := some 131, op := Op.move (Operand.tmp 22), type := 33, pos := "law.go:230", after := #[{ on := 14, ground := Ground.guard }], guard := some (14, true) }) (v := ?_) rfl (by kernel_rfl) (by kernel_rfl) (by kernel_rfl) (fun _ _ _ h => h) (Or.inl ⟨by rfl, ?_⟩) (by assumption) ?_
          rotate_left 1
          · (intro W hSW; (try dsimp only at hSW); first | (go_simp; done) | (go_simp; with_reducible rfl))
          try simp only [Act.put, List.setIfInBounds_toArray, List.set_cons_zero, List.set_cons_succ]
          refine wpAnyH_take (i := 19) (oi := { dst := some 132, op := Op.move (Operand.tmp 10), type := 3, pos := "law.go:230", after := #[{ on := 14, ground := Ground.guard }], guard := some (14, true) }) (v := ?_) rfl (by kernel_rfl) (by kernel_rfl) (by kernel_rfl) (fun _ _ _ h => h) (Or.inl ⟨by rfl, ?_⟩) (by assumption) ?_
          rotate_left 1
          · (intro W hSW; (try dsimp only at hSW); first | (go_simp; done) | (go_simp; with_reducible rfl))
          try simp only [Act.put, List.setIfInBounds_toArray, List.set_cons_zero, List.set_cons_succ]
          refine wpAnyH_take (i := 20) (oi := { dst := some 133, op := Op.binOp BinOp.sub 3 (Operand.tmp 132) (Operand.const (Value.int IntKind.i64 1)) 3, type := 3, pos := "law.go:230", after := #[{ on := 19, ground := Ground.data }, { on := 14, ground := Ground.guard }], guard := some (14, true) }) (v := ?_) rfl (by kernel_rfl) (by kernel_rfl) (by kernel_rfl) (fun _ _ _ h => h) (Or.inl ⟨by rfl, ?_⟩) (by assumption) ?_
          rotate_left 1
          · (intro W hSW; (try dsimp only at hSW); first | (go_simp; done) | (go_simp; with_reducible rfl))
          try simp only [Act.put, List.setIfInBounds_toArray, List.set_cons_zero, List.set_cons_succ]
          refine wpAnyH_take (i := 21) (oi := { dst := some 134, op := Op.indexAddr 33 (Operand.tmp 131) (Operand.tmp 133), type := 0, pos := "law.go:230", after := #[{ on := 18, ground := Ground.data }, { on := 20, ground := Ground.data }, { on := 14, ground := Ground.guard }], guard := some (14, true) }) (v := ?_) rfl (by kernel_rfl) (by kernel_rfl) (by kernel_rfl) (fun _ _ _ h => h) (Or.inl ⟨by rfl, ?_⟩) (by assumption) ?_
          rotate_left 1
          · (intro W hSW; (try dsimp only at hSW); first | (go_simp; done) | (go_simp; with_reducible rfl))
          try simp only [Act.put, List.setIfInBounds_toArray, List.set_cons_zero, List.set_cons_succ]
          refine wpAnyH_take (i := 22) (oi := { dst := some 135, op := Op.load 3 (Operand.tmp 134), type := 3, pos := "law.go:230", after := #[{ on := 21, ground := Ground.data }, { on := 14, ground := Ground.guard }], guard := some (14, true) }) (v := ?_) rfl (by kernel_rfl) (by kernel_rfl) (by kernel_rfl) (fun _ _ _ h => h) (Or.inl ⟨by rfl, ?_⟩) (by assumption) ?_
          rotate_left 1
          · (intro W hSW; (try dsimp only at hSW); first | (go_simp; done) | (go_simp; with_reducible rfl))
          try simp only [Act.put, List.setIfInBounds_toArray, List.set_cons_zero, List.set_cons_succ]
          refine wpAnyH_take (i := 24) (oi := { dst := some 137, op := Op.move (Operand.tmp 23), type := 4, pos := "law.go:230", after := #[{ on := 14, ground := Ground.guard }], guard := some (14, true) }) (v := ?_) rfl (by kernel_rfl) (by kernel_rfl) (by kernel_rfl) (fun _ _ _ h => h) (Or.inl ⟨by rfl, ?_⟩) (by assumption) ?_
          rotate_left 1
          · (intro W hSW; (try dsimp only at hSW); first | (go_simp; done) | (go_simp; with_reducible rfl))
          try simp only [Act.put, List.setIfInBounds_toArray, List.set_cons_zero, List.set_cons_succ]
          refine wpAnyH_ready (rs := [23]) (by kernel_rfl) (by simp) ?_
          refine (AllReadyH.cons (o := { dst := some 136, op := Op.call { callee := Callee.value (Operand.func 18), args := #[Operand.tmp 128, Operand.tmp 130, Operand.tmp 135], argTypes := #[32, 24, 3] }, type := 4, pos := "law.go:230", after := #[{ on := 15, ground := Ground.data }, { on := 17, ground := Ground.data }, { on := 22, ground := Ground.data }, { on := 14, ground := Ground.chain }, { on := 14, ground := Ground.guard }], guard := some (14, true) }) rfl (fun K hK => ?_) AllReadyH.nil)
          rw [if_pos (by rfl)]
          go_simp
          go_at_call 18
          refine (reval_n gT vals xt true HNV.out FT.out (by have := GT.out.2.1; omega) HV20.out GT.out.1 XT.out.2 ((HT.out.grown hgr1).2.2) (HI.out.v.grown hgr1)).mono ?_
          rintro e wc2 ⟨rfl, gc2⟩
          have hgr2 := World.grownBy.trans hgr1 gc2
          go_wp2_with fail
          refine hK.out _ _ (HS.out _ hgr2) (fun hHeld => ?_)
          clear hK K
          try simp only [Act.put, List.setIfInBounds_toArray, List.set_cons_zero, List.set_cons_succ]
          refine wpAnyH_take (i := 25) (oi := { dst := some 138, op := Op.binOp BinOp.eql 4 (Operand.tmp 136) (Operand.tmp 137) 4, type := 4, pos := "law.go:230", after := #[{ on := 23, ground := Ground.data }, { on := 24, ground := Ground.data }, { on := 14, ground := Ground.guard }], guard := some (14, true) }) (v := ?_) rfl (by kernel_rfl) (by kernel_rfl) (by kernel_rfl) (fun _ _ _ h => h) (Or.inl ⟨by rfl, ?_⟩) (by assumption) ?_
          rotate_left 1
          · (intro W hSW; (try dsimp only at hSW); first | (go_simp; done) | (go_simp; with_reducible rfl))
          try simp only [Act.put, List.setIfInBounds_toArray, List.set_cons_zero, List.set_cons_succ]
          refine wpAnyH_take (i := 26) (oi := { dst := some 139, op := Op.pick (Operand.tmp 127) (Operand.tmp 138) (Operand.const (Value.bool false)), type := 4, pos := "law.go:230", after := #[{ on := 14, ground := Ground.data }, { on := 25, ground := Ground.data }], guard := none }) (v := ?_) rfl (by kernel_rfl) (by kernel_rfl) (by kernel_rfl) (fun _ _ _ h => h) (Or.inl ⟨by rfl, ?_⟩) (by assumption) ?_
          rotate_left 1
          · (intro W hSW; (try dsimp only at hSW); first | (go_simp; done) | (go_simp; with_reducible rfl))
          try simp only [Act.put, List.setIfInBounds_toArray, List.set_cons_zero, List.set_cons_succ]
          refine wpAnyH_take (i := 27) (oi := { dst := some 140, op := Op.move (Operand.tmp 139), type := 4, pos := "law.go:230", after := #[{ on := 26, ground := Ground.data }, { on := 23, ground := Ground.chain }], guard := none }) (v := ?_) rfl (by kernel_rfl) (by kernel_rfl) (by kernel_rfl) (fun _ _ _ h => h) (Or.inl ⟨by rfl, ?_⟩) (by assumption) ?_
          rotate_left 1
          · (intro W hSW; (try dsimp only at hSW); first | (go_simp; done) | (go_simp; with_reducible rfl))
          try simp only [Act.put, List.setIfInBounds_toArray, List.set_cons_zero, List.set_cons_succ]
          refine wpAnyH_take (i := 28) (oi := { dst := some 141, op := Op.load 32 (Operand.tmp 15), type := 32, pos := "law.go:230", after := #[{ on := 27, ground := Ground.guard }], guard := some (27, true) }) (v := ?_) rfl (by kernel_rfl) (by kernel_rfl) (by kernel_rfl) (fun _ _ _ h => h) (Or.inl ⟨by rfl, ?_⟩) (by assumption) ?_
          rotate_left 1
          · (intro W hSW; (try dsimp only at hSW); first | (go_simp; done) | (go_simp; with_reducible rfl))
          try simp only [Act.put, List.setIfInBounds_toArray, List.set_cons_zero, List.set_cons_succ]
          refine wpAnyH_take (i := 29) (oi := { dst := some 142, op := Op.fieldAddr 27 (Operand.tmp 2) 3, type := 0, pos := "law.go:230", after := #[{ on := 27, ground := Ground.guard }], guard := some (27, true) }) (v := ?_) rfl (by kernel_rfl) (by kernel_rfl) (by kernel_rfl) (fun _ _ _ h => h) (Or.inl ⟨by rfl, ?_⟩) (by assumption) ?_
          rotate_left 1
          · (intro W hSW; (try dsimp only at hSW); first | (go_simp; done) | (go_simp; with_reducible rfl))
          try simp only [Act.put, List.setIfInBounds_toArray, List.set_cons_zero, List.set_cons_succ]
          refine wpAnyH_take (i := 30) (oi := { dst := some 143, op := Op.load 24 (Operand.tmp 142), type := 24, pos := "law.go:230", after := #[{ on := 29, ground := Ground.data }, { on := 27, ground := Ground.guard }], guard := some (27, true) }) (v := ?_) rfl (by kernel_rfl) (by kernel_rfl) (by kernel_rfl) (fun _ _ _ h => h) (Or.inl ⟨by rfl, ?_⟩) (by assumption) ?_
          rotate_left 1
          · (intro W hSW; (try dsimp only at hSW); first | (go_simp; done) | (go_simp; with_reducible rfl))
          try simp only [Act.put, List.setIfInBounds_toArray, List.set_cons_zero, List.set_cons_succ]
          refine wpAnyH_take (i := 31) (oi := { dst := some 144, op := Op.move (Operand.tmp 16), type := 3, pos := "law.go:230", after := #[{ on := 27, ground := Ground.guard }], guard := some (27, true) }) (v := ?_) rfl (by kernel_rfl) (by kernel_rfl) (by kernel_rfl) (fun _ _ _ h => h) (Or.inl ⟨by rfl, ?_⟩) (by assumption) ?_
          rotate_left 1
          · (intro W hSW; (try dsimp only at hSW); first | (go_simp; done) | (go_simp; with_reducible rfl))
          try simp only [Act.put, List.setIfInBounds_toArray, List.set_cons_zero, List.set_cons_succ]
          refine wpAnyH_take (i := 33) (oi := { dst := some 146, op := Op.move (Operand.tmp 23), type := 4, pos := "law.go:230", after := #[{ on := 27, ground := Ground.guard }], guard := some (27, true) }) (v := ?_) rfl (by kernel_rfl) (by kernel_rfl) (by kernel_rfl) (fun _ _ _ h => h) (Or.inl ⟨by rfl, ?_⟩) (by assumption) ?_
          rotate_left 1
          · (intro W hSW; (try dsimp only at hSW); first | (go_simp; done) | (go_simp; with_reducible rfl))
          try simp only [Act.put, List.setIfInBounds_toArray, List.set_cons_zero, List.set_cons_succ]
          refine wpAnyH_ready (rs := [32]) (by kernel_rfl) (by simp) ?_
          refine (AllReadyH.cons (o := { dst := some 145, op := Op.call { callee := Callee.value (Operand.func 18), args := #[Operand.tmp 141, Operand.tmp 143, Operand.tmp 144], argTypes := #[32, 24, 3] }, type := 4, pos := "law.go:230", after := #[{ on := 28, ground := Ground.data }, { on := 30, ground := Ground.data }, { on := 31, ground := Ground.data }, { on := 27, ground := Ground.chain }, { on := 27, ground := Ground.guard }], guard := some (27, true) }) rfl (fun K hK => ?_) AllReadyH.nil)
          rw [if_pos (by rfl)]
          go_simp
          go_at_call 18
          refine (reval_n gQ vals lQ false HNV.out FQ.out (by have := GQ.out.2.1; omega) HV20.out GQ.out.1 GQ.out.2.2 ((HQ.out.grown hgr2).2.2) (HI.out.v.grown hgr2)).mono ?_
          rintro e wc3 ⟨rfl, gc3⟩
          have hgr3 := World.grownBy.trans hgr2 gc3
          go_wp2_with fail
          refine hK.out _ _ (HS.out _ hgr3) (fun hHeld => ?_)
          clear hK K
          try simp only [Act.put, List.setIfInBounds_toArray, List.set_cons_zero, List.set_cons_succ]
          refine wpAnyH_take (i := 34) (oi := { dst := some 147, op := Op.binOp BinOp.neq 4 (Operand.tmp 145) (Operand.tmp 146) 4, type := 4, pos := "law.go:230", after := #[{ on := 32, ground := Ground.data }, { on := 33, ground := Ground.data }, { on := 27, ground := Ground.guard }], guard := some (27, true) }) (v := ?_) rfl (by kernel_rfl) (by kernel_rfl) (by kernel_rfl) (fun _ _ _ h => h) (Or.inl ⟨by rfl, ?_⟩) (by assumption) ?_
          rotate_left 1
          · (intro W hSW; (try dsimp only at hSW); first | (go_simp; done) | (go_simp; with_reducible rfl))
          try simp only [Act.put, List.setIfInBounds_toArray, List.set_cons_zero, List.set_cons_succ]
          refine wpAnyH_take (i := 35) (oi := { dst := some 148, op := Op.pick (Operand.tmp 140) (Operand.tmp 147) (Operand.const (Value.bool false)), type := 4, pos := "law.go:230", after := #[{ on := 27, ground := Ground.data }, { on := 34, ground := Ground.data }], guard := none }) (v := ?_) rfl (by kernel_rfl) (by kernel_rfl) (by kernel_rfl) (fun _ _ _ h => h) (Or.inl ⟨by rfl, ?_⟩) (by assumption) ?_
          rotate_left 1
          · (intro W hSW; (try dsimp only at hSW); first | (go_simp; done) | (go_simp; with_reducible rfl))
          try simp only [Act.put, List.setIfInBounds_toArray, List.set_cons_zero, List.set_cons_succ]
          refine wpAnyH_take (i := 36) (oi := { dst := some 149, op := Op.move (Operand.tmp 148), type := 4, pos := "law.go:230", after := #[{ on := 35, ground := Ground.data }, { on := 32, ground := Ground.chain }], guard := none }) (v := ?_) rfl (by kernel_rfl) (by kernel_rfl) (by kernel_rfl) (fun _ _ _ h => h) (Or.inl ⟨by rfl, ?_⟩) (by assumption) ?_
          rotate_left 1
          · (intro W hSW; (try dsimp only at hSW); first | (go_simp; done) | (go_simp; with_reducible rfl))
          try simp only [Act.put, List.setIfInBounds_toArray, List.set_cons_zero, List.set_cons_succ]
          refine wpAnyH_take (i := 37) (oi := { dst := some 150, op := Op.move (Operand.tmp 23), type := 4, pos := "law.go:230", after := #[{ on := 36, ground := Ground.guard }], guard := some (36, true) }) (v := ?_) rfl (by kernel_rfl) (by kernel_rfl) (by kernel_rfl) (fun _ _ _ h => h) (Or.inl ⟨by rfl, ?_⟩) (by assumption) ?_
          rotate_left 1
          · (intro W hSW; (try dsimp only at hSW); first | (go_simp; done) | (go_simp; with_reducible rfl))
          try simp only [Act.put, List.setIfInBounds_toArray, List.set_cons_zero, List.set_cons_succ]
          refine wpAnyH_take (i := 38) (oi := { dst := some 151, op := Op.unOp UnOp.not 4 (Operand.tmp 150), type := 4, pos := "law.go:230", after := #[{ on := 37, ground := Ground.data }, { on := 36, ground := Ground.guard }], guard := some (36, true) }) (v := ?_) rfl (by kernel_rfl) (by kernel_rfl) (by kernel_rfl) (fun _ _ _ h => h) (Or.inl ⟨by rfl, ?_⟩) (by assumption) ?_
          rotate_left 1
          · (intro W hSW; (try dsimp only at hSW); first | (go_simp; done) | (go_simp; with_reducible rfl))
          try simp only [Act.put, List.setIfInBounds_toArray, List.set_cons_zero, List.set_cons_succ]
          refine wpAnyH_take (i := 39) (oi := { dst := some 152, op := Op.move (Operand.tmp 151), type := 4, pos := "law.go:230", after := #[{ on := 38, ground := Ground.data }, { on := 36, ground := Ground.chain }, { on := 36, ground := Ground.guard }], guard := some (36, true) }) (v := ?_) rfl (by kernel_rfl) (by kernel_rfl) (by kernel_rfl) (fun _ _ _ h => h) (Or.inl ⟨by rfl, ?_⟩) (by assumption) ?_
          rotate_left 1
          · (intro W hSW; (try dsimp only at hSW); first | (go_simp; done) | (go_simp; with_reducible rfl))
          try simp only [Act.put, List.setIfInBounds_toArray, List.set_cons_zero, List.set_cons_succ]
          refine wpAnyH_take (i := 40) (oi := { dst := some 153, op := Op.load 32 (Operand.tmp 17), type := 32, pos := "law.go:230", after := #[{ on := 39, ground := Ground.guard }], guard := some (39, false) }) (v := ?_) rfl (by kernel_rfl) (by kernel_rfl) (by kernel_rfl) (fun _ _ _ h => h) (Or.inl ⟨by rfl, ?_⟩) (by assumption) ?_
          rotate_left 1
          · (intro W hSW; (try dsimp only at hSW); first | (go_simp; done) | (go_simp; with_reducible rfl))
          try simp only [Act.put, List.setIfInBounds_toArray, List.set_cons_zero, List.set_cons_succ]
          refine wpAnyH_take (i := 41) (oi := { dst := some 154, op := Op.fieldAddr 27 (Operand.tmp 2) 3, type := 0, pos := "law.go:230", after := #[{ on := 39, ground := Ground.guard }], guard := some (39, false) }) (v := ?_) rfl (by kernel_rfl) (by kernel_rfl) (by kernel_rfl) (fun _ _ _ h => h) (Or.inl ⟨by rfl, ?_⟩) (by assumption) ?_
          rotate_left 1
          · (intro W hSW; (try dsimp only at hSW); first | (go_simp; done) | (go_simp; with_reducible rfl))
          try simp only [Act.put, List.setIfInBounds_toArray, List.set_cons_zero, List.set_cons_succ]
          refine wpAnyH_take (i := 42) (oi := { dst := some 155, op := Op.load 24 (Operand.tmp 154), type := 24, pos := "law.go:230", after := #[{ on := 41, ground := Ground.data }, { on := 39, ground := Ground.guard }], guard := some (39, false) }) (v := ?_) rfl (by kernel_rfl) (by kernel_rfl) (by kernel_rfl) (fun _ _ _ h => h) (Or.inl ⟨by rfl, ?_⟩) (by assumption) ?_
          rotate_left 1
          · (intro W hSW; (try dsimp only at hSW); first | (go_simp; done) | (go_simp; with_reducible rfl))
          try simp only [Act.put, List.setIfInBounds_toArray, List.set_cons_zero, List.set_cons_succ]
          refine wpAnyH_take (i := 43) (oi := { dst := some 156, op := Op.move (Operand.tmp 18), type := 3, pos := "law.go:230", after := #[{ on := 39, ground := Ground.guard }], guard := some (39, false) }) (v := ?_) rfl (by kernel_rfl) (by kernel_rfl) (by kernel_rfl) (fun _ _ _ h => h) (Or.inl ⟨by rfl, ?_⟩) (by assumption) ?_
          rotate_left 1
          · (intro W hSW; (try dsimp only at hSW); first | (go_simp; done) | (go_simp; with_reducible rfl))
          try simp only [Act.put, List.setIfInBounds_toArray, List.set_cons_zero, List.set_cons_succ]
          refine wpAnyH_ready (rs := [44]) (by kernel_rfl) (by simp) ?_
          refine (AllReadyH.cons (o := { dst := some 157, op := Op.call { callee := Callee.value (Operand.func 18), args := #[Operand.tmp 153, Operand.tmp 155, Operand.tmp 156], argTypes := #[32, 24, 3] }, type := 4, pos := "law.go:230", after := #[{ on := 40, ground := Ground.data }, { on := 42, ground := Ground.data }, { on := 43, ground := Ground.data }, { on := 39, ground := Ground.chain }, { on := 39, ground := Ground.guard }], guard := some (39, false) }) rfl (fun K hK => ?_) AllReadyH.nil)
          rw [if_pos (by rfl)]
          go_simp
          go_at_call 18
          refine (reval_n gO vals lO true HNV.out (FO.out trivial) (by have := GO.out.2.1; omega) HV20.out GO.out.1 GO.out.2.2 ((HO.out.grown hgr3).2.2) (HI.out.v.grown hgr3)).mono ?_
          rintro e wc4 ⟨rfl, gc4⟩
          have hgr4 := World.grownBy.trans hgr3 gc4
          go_wp2_with fail
          refine hK.out _ _ (HS.out _ hgr4) (fun hHeld => ?_)
          clear hK K
          try simp only [Act.put, List.setIfInBounds_toArray, List.set_cons_zero, List.set_cons_succ]
          refine wpAnyH_take (i := 45) (oi := { dst := some 158, op := Op.pick (Operand.tmp 152) (Operand.const (Value.bool true)) (Operand.tmp 157), type := 4, pos := "law.go:230", after := #[{ on := 39, ground := Ground.data }, { on := 44, ground := Ground.data }, { on := 36, ground := Ground.guard }], guard := some (36, true) }) (v := ?_) rfl (by kernel_rfl) (by kernel_rfl) (by kernel_rfl) (fun _ _ _ h => h) (Or.inl ⟨by rfl, ?_⟩) (by assumption) ?_
          rotate_left 1
          · (intro W hSW; (try dsimp only at hSW); first | (go_simp; done) | (go_simp; with_reducible rfl))
          try simp only [Act.put, List.setIfInBounds_toArray, List.set_cons_zero, List.set_cons_succ]
          refine wpAnyH_take (i := 46) (oi := { dst := some 159, op := Op.pick (Operand.tmp 149) (Operand.tmp 158) (Operand.const (Value.bool false)), type := 4, pos := "law.go:230", after := #[{ on := 36, ground := Ground.data }, { on := 45, ground := Ground.data }], guard := none }) (v := ?_) rfl (by kernel_rfl) (by kernel_rfl) (by kernel_rfl) (fun _ _ _ h => h) (Or.inl ⟨by rfl, ?_⟩) (by assumption) ?_
          rotate_left 1
          · (intro W hSW; (try dsimp only at hSW); first | (go_simp; done) | (go_simp; with_reducible rfl))
          try simp only [Act.put, List.setIfInBounds_toArray, List.set_cons_zero, List.set_cons_succ]
          refine wpAnyH_take (i := 47) (oi := { dst := some 4, op := Op.assign (Operand.tmp 159), type := 4, pos := "law.go:230", after := #[{ on := 46, ground := Ground.data }, { on := 44, ground := Ground.chain }, { on := 0, ground := Ground.phase }, { on := 1, ground := Ground.phase }, { on := 2, ground := Ground.phase }, { on := 3, ground := Ground.phase }, { on := 4, ground := Ground.phase }, { on := 5, ground := Ground.phase }, { on := 6, ground := Ground.phase }, { on := 7, ground := Ground.phase }, { on := 8, ground := Ground.phase }, { on := 9, ground := Ground.phase }, { on := 10, ground := Ground.phase }, { on := 11, ground := Ground.phase }, { on := 12, ground := Ground.phase }, { on := 13, ground := Ground.phase }, { on := 14, ground := Ground.phase }, { on := 15, ground := Ground.phase }, { on := 16, ground := Ground.phase }, { on := 17, ground := Ground.phase }, { on := 18, ground := Ground.phase }, { on := 19, ground := Ground.phase }, { on := 20, ground := Ground.phase }, { on := 21, ground := Ground.phase }, { on := 22, ground := Ground.phase }, { on := 23, ground := Ground.phase }, { on := 24, ground := Ground.phase }, { on := 25, ground := Ground.phase }, { on := 26, ground := Ground.phase }, { on := 27, ground := Ground.phase }, { on := 28, ground := Ground.phase }, { on := 29, ground := Ground.phase }, { on := 30, ground := Ground.phase }, { on := 31, ground := Ground.phase }, { on := 32, ground := Ground.phase }, { on := 33, ground := Ground.phase }, { on := 34, ground := Ground.phase }, { on := 35, ground := Ground.phase }, { on := 36, ground := Ground.phase }, { on := 37, ground := Ground.phase }, { on := 38, ground := Ground.phase }, { on := 39, ground := Ground.phase }, { on := 40, ground := Ground.phase }, { on := 41, ground := Ground.phase }, { on := 42, ground := Ground.phase }, { on := 43, ground := Ground.phase }, { on := 44, ground := Ground.phase }, { on := 45, ground := Ground.phase }, { on := 46, ground := Ground.phase }], guard := none }) (v := ?_) rfl (by kernel_rfl) (by kernel_rfl) (by kernel_rfl) (fun _ _ _ h => h) (Or.inl ⟨by rfl, ?_⟩) (by assumption) ?_
          rotate_left 1
          · (intro W hSW; (try dsimp only at hSW); first | (go_simp; done) | (go_simp; with_reducible rfl))
          try simp only [Act.put, List.setIfInBounds_toArray, List.set_cons_zero, List.set_cons_succ]
          refine wpAnyH_done (by kernel_rfl) ?_ _
          have hEND := hgr4
          clear hHeld
          have HE := Lib.hid (World.grownBy.trans HG.out hEND)
          clear hEND
          go_wp2_with fail
          go_ret
          exact ⟨rfl, HE.out⟩
        | false =>
          have HS := Lib.hid (fun (Wh : World) (hWh : V16.grownBy Wh none) => (⟨hWh, hWh.cell HSo.out.1 (by simp), hWh.cell HT.out.1 (by simp), hWh.cell HQ.out.1 (by simp), hWh.cell HO.out.1 (by simp), hWh.cell HX.out.c3 (by simp), hWh.cell HXS.out (by simp), hWh.cell HXT.out (by simp)⟩ : (fun Wh : World => V16.grownBy Wh none ∧ Wh.cell? ⟨bSo, 0, none⟩ = some (.slice a12 gSo.length c12) ∧ Wh.cell? ⟨bT, 0, none⟩ = some (.slice a14 gT.length c14) ∧ Wh.cell? ⟨bQ, 0, none⟩ = some (.slice a8 gQ.length c8) ∧ Wh.cell? ⟨bO, 0, none⟩ = some (.slice a10 gO.length c10) ∧ Wh.cell? ⟨bX, 3, none⟩ = some (.slice va nv vc) ∧ Wh.cell? ⟨bs, os + r, none⟩ = some (.int .i64 xs) ∧ Wh.cell? ⟨bt, ot + r, none⟩ = some (.int .i64 xt)) Wh))
          have hdr : V16.grownBy V16.drew none := ⟨rfl, rfl, rfl, Nat.le_refl _, fun _ _ _ => rfl⟩
          refine wp_region_held_drew (S := (fun Wh : World => V16.grownBy Wh none ∧ Wh.cell? ⟨bSo, 0, none⟩ = some (.slice a12 gSo.length c12) ∧ Wh.cell? ⟨bT, 0, none⟩ = some (.slice a14 gT.length c14) ∧ Wh.cell? ⟨bQ, 0, none⟩ = some (.slice a8 gQ.length c8) ∧ Wh.cell? ⟨bO, 0, none⟩ = some (.slice a10 gO.length c10) ∧ Wh.cell? ⟨bX, 3, none⟩ = some (.slice va nv vc) ∧ Wh.cell? ⟨bs, os + r, none⟩ = some (.int .i64 xs) ∧ Wh.cell? ⟨bt, ot + r, none⟩ = some (.int .i64 xt))) (by kernel_rfl) (HS.out _ hdr) (fun hHeld => ?_)
          refine wpAnyH_take (i := 0) (oi := { dst := some 113, op := Op.move (Operand.tmp 5), type := 4, pos := "law.go:230", after := #[], guard := none }) (v := ?_) rfl (by kernel_rfl) (by kernel_rfl) (by kernel_rfl) (fun _ _ _ h => h) (Or.inl ⟨by rfl, ?_⟩) (by assumption) ?_
          rotate_left 1
          · (intro W hSW; (try dsimp only at hSW); first | (go_simp; done) | (go_simp; with_reducible rfl))
          try simp only [Act.put, List.setIfInBounds_toArray, List.set_cons_zero, List.set_cons_succ]
          refine wpAnyH_take (i := 1) (oi := { dst := some 114, op := Op.move (Operand.tmp 113), type := 4, pos := "law.go:230", after := #[{ on := 0, ground := Ground.data }], guard := none }) (v := ?_) rfl (by kernel_rfl) (by kernel_rfl) (by kernel_rfl) (fun _ _ _ h => h) (Or.inl ⟨by rfl, ?_⟩) (by assumption) ?_
          rotate_left 1
          · (intro W hSW; (try dsimp only at hSW); first | (go_simp; done) | (go_simp; with_reducible rfl))
          try simp only [Act.put, List.setIfInBounds_toArray, List.set_cons_zero, List.set_cons_succ]
          refine wpAnyH_take (i := 2) (oi := { dst := some 115, op := Op.load 32 (Operand.tmp 19), type := 32, pos := "law.go:230", after := #[{ on := 1, ground := Ground.guard }], guard := some (1, true) }) (v := ?_) rfl (by kernel_rfl) (by kernel_rfl) (by kernel_rfl) (fun _ _ _ h => h) (Or.inl ⟨by rfl, ?_⟩) (by assumption) ?_
          rotate_left 1
          · (intro W hSW; (try dsimp only at hSW); first | (go_simp; done) | (go_simp; with_reducible rfl))
          try simp only [Act.put, List.setIfInBounds_toArray, List.set_cons_zero, List.set_cons_succ]
          refine wpAnyH_take (i := 3) (oi := { dst := some 116, op := Op.fieldAddr 27 (Operand.tmp 2) 3, type := 0, pos := "law.go:230", after := #[{ on := 1, ground := Ground.guard }], guard := some (1, true) }) (v := ?_) rfl (by kernel_rfl) (by kernel_rfl) (by kernel_rfl) (fun _ _ _ h => h) (Or.inl ⟨by rfl, ?_⟩) (by assumption) ?_
          rotate_left 1
          · (intro W hSW; (try dsimp only at hSW); first | (go_simp; done) | (go_simp; with_reducible rfl))
          try simp only [Act.put, List.setIfInBounds_toArray, List.set_cons_zero, List.set_cons_succ]
          refine wpAnyH_take (i := 4) (oi := { dst := some 117, op := Op.load 24 (Operand.tmp 116), type := 24, pos := "law.go:230", after := #[{ on := 3, ground := Ground.data }, { on := 1, ground := Ground.guard }], guard := some (1, true) }) (v := ?_) rfl (by kernel_rfl) (by kernel_rfl) (by kernel_rfl) (fun _ _ _ h => h) (Or.inl ⟨by rfl, ?_⟩) (by assumption) ?_
          rotate_left 1
          · (intro W hSW; (try dsimp only at hSW); first | (go_simp; done) | (go_simp; with_reducible rfl))
          try simp only [Act.put, List.setIfInBounds_toArray, List.set_cons_zero, List.set_cons_succ]
          refine wpAnyH_take (i := 5) (oi := { dst := some 118, op := Op.move (Operand.tmp 20), type := 33, pos := "law.go:230", after := #[{ on := 1, ground := Ground.guard }], guard := some (1, true) }) (v := ?_) rfl (by kernel_rfl) (by kernel_rfl) (by kernel_rfl) (fun _ _ _ h => h) (Or.inl ⟨by rfl, ?_⟩) (by assumption) ?_
          rotate_left 1
          · (intro W hSW; (try dsimp only at hSW); first | (go_simp; done) | (go_simp; with_reducible rfl))
          try simp only [Act.put, List.setIfInBounds_toArray, List.set_cons_zero, List.set_cons_succ]
          refine wpAnyH_take (i := 6) (oi := { dst := some 119, op := Op.move (Operand.tmp 10), type := 3, pos := "law.go:230", after := #[{ on := 1, ground := Ground.guard }], guard := some (1, true) }) (v := ?_) rfl (by kernel_rfl) (by kernel_rfl) (by kernel_rfl) (fun _ _ _ h => h) (Or.inl ⟨by rfl, ?_⟩) (by assumption) ?_
          rotate_left 1
          · (intro W hSW; (try dsimp only at hSW); first | (go_simp; done) | (go_simp; with_reducible rfl))
          try simp only [Act.put, List.setIfInBounds_toArray, List.set_cons_zero, List.set_cons_succ]
          refine wpAnyH_take (i := 7) (oi := { dst := some 120, op := Op.binOp BinOp.sub 3 (Operand.tmp 119) (Operand.const (Value.int IntKind.i64 1)) 3, type := 3, pos := "law.go:230", after := #[{ on := 6, ground := Ground.data }, { on := 1, ground := Ground.guard }], guard := some (1, true) }) (v := ?_) rfl (by kernel_rfl) (by kernel_rfl) (by kernel_rfl) (fun _ _ _ h => h) (Or.inl ⟨by rfl, ?_⟩) (by assumption) ?_
          rotate_left 1
          · (intro W hSW; (try dsimp only at hSW); first | (go_simp; done) | (go_simp; with_reducible rfl))
          try simp only [Act.put, List.setIfInBounds_toArray, List.set_cons_zero, List.set_cons_succ]
          refine wpAnyH_take (i := 8) (oi := { dst := some 121, op := Op.indexAddr 33 (Operand.tmp 118) (Operand.tmp 120), type := 0, pos := "law.go:230", after := #[{ on := 5, ground := Ground.data }, { on := 7, ground := Ground.data }, { on := 1, ground := Ground.guard }], guard := some (1, true) }) (v := ?_) rfl (by kernel_rfl) (by kernel_rfl) (by kernel_rfl) (fun _ _ _ h => h) (Or.inl ⟨by rfl, ?_⟩) (by assumption) ?_
          rotate_left 1
          · (intro W hSW; (try dsimp only at hSW); first | (go_simp; done) | (go_simp; with_reducible rfl))
          try simp only [Act.put, List.setIfInBounds_toArray, List.set_cons_zero, List.set_cons_succ]
          refine wpAnyH_take (i := 9) (oi := { dst := some 122, op := Op.load 3 (Operand.tmp 121), type := 3, pos := "law.go:230", after := #[{ on := 8, ground := Ground.data }, { on := 1, ground := Ground.guard }], guard := some (1, true) }) (v := ?_) rfl (by kernel_rfl) (by kernel_rfl) (by kernel_rfl) (fun _ _ _ h => h) (Or.inl ⟨by rfl, ?_⟩) (by assumption) ?_
          rotate_left 1
          · (intro W hSW; (try dsimp only at hSW); first | (go_simp; done) | (go_simp; with_reducible rfl))
          try simp only [Act.put, List.setIfInBounds_toArray, List.set_cons_zero, List.set_cons_succ]
          refine wpAnyH_take (i := 11) (oi := { dst := some 124, op := Op.move (Operand.tmp 23), type := 4, pos := "law.go:230", after := #[{ on := 1, ground := Ground.guard }], guard := some (1, true) }) (v := ?_) rfl (by kernel_rfl) (by kernel_rfl) (by kernel_rfl) (fun _ _ _ h => h) (Or.inl ⟨by rfl, ?_⟩) (by assumption) ?_
          rotate_left 1
          · (intro W hSW; (try dsimp only at hSW); first | (go_simp; done) | (go_simp; with_reducible rfl))
          try simp only [Act.put, List.setIfInBounds_toArray, List.set_cons_zero, List.set_cons_succ]
          refine wpAnyH_ready (rs := [10]) (by kernel_rfl) (by simp) ?_
          refine (AllReadyH.cons (o := { dst := some 123, op := Op.call { callee := Callee.value (Operand.func 18), args := #[Operand.tmp 115, Operand.tmp 117, Operand.tmp 122], argTypes := #[32, 24, 3] }, type := 4, pos := "law.go:230", after := #[{ on := 2, ground := Ground.data }, { on := 4, ground := Ground.data }, { on := 9, ground := Ground.data }, { on := 1, ground := Ground.chain }, { on := 1, ground := Ground.guard }], guard := some (1, true) }) rfl (fun K hK => ?_) AllReadyH.nil)
          rw [if_pos (by rfl)]
          go_simp
          go_at_call 18
          refine (reval_n gSo vals xs false HNV.out FS.out (by have := GSo.out.2.1; omega) HV20.out GSo.out.1 XS.out.2 ((HSo.out.grown hdr).2.2) (HI.out.v.grown hdr)).mono ?_
          rintro e wc1 ⟨rfl, gc1⟩
          have hgr1 := World.grownBy.trans hdr gc1
          go_wp2_with fail
          refine hK.out _ _ (HS.out _ hgr1) (fun hHeld => ?_)
          clear hK K
          try simp only [Act.put, List.setIfInBounds_toArray, List.set_cons_zero, List.set_cons_succ]
          refine wpAnyH_take (i := 12) (oi := { dst := some 125, op := Op.binOp BinOp.eql 4 (Operand.tmp 123) (Operand.tmp 124) 4, type := 4, pos := "law.go:230", after := #[{ on := 10, ground := Ground.data }, { on := 11, ground := Ground.data }, { on := 1, ground := Ground.guard }], guard := some (1, true) }) (v := ?_) rfl (by kernel_rfl) (by kernel_rfl) (by kernel_rfl) (fun _ _ _ h => h) (Or.inl ⟨by rfl, ?_⟩) (by assumption) ?_
          rotate_left 1
          · (intro W hSW; (try dsimp only at hSW); first | (go_simp; done) | (go_simp; with_reducible rfl))
          try simp only [Act.put, List.setIfInBounds_toArray, List.set_cons_zero, List.set_cons_succ]
          refine wpAnyH_take (i := 13) (oi := { dst := some 126, op := Op.pick (Operand.tmp 114) (Operand.tmp 125) (Operand.const (Value.bool false)), type := 4, pos := "law.go:230", after := #[{ on := 1, ground := Ground.data }, { on := 12, ground := Ground.data }], guard := none }) (v := ?_) rfl (by kernel_rfl) (by kernel_rfl) (by kernel_rfl) (fun _ _ _ h => h) (Or.inl ⟨by rfl, ?_⟩) (by assumption) ?_
          rotate_left 1
          · (intro W hSW; (try dsimp only at hSW); first | (go_simp; done) | (go_simp; with_reducible rfl))
          try simp only [Act.put, List.setIfInBounds_toArray, List.set_cons_zero, List.set_cons_succ]
          refine wpAnyH_take (i := 14) (oi := { dst := some 127, op := Op.move (Operand.tmp 126), type := 4, pos := "law.go:230", after := #[{ on := 13, ground := Ground.data }, { on := 10, ground := Ground.chain }], guard := none }) (v := ?_) rfl (by kernel_rfl) (by kernel_rfl) (by kernel_rfl) (fun _ _ _ h => h) (Or.inl ⟨by rfl, ?_⟩) (by assumption) ?_
          rotate_left 1
          · (intro W hSW; (try dsimp only at hSW); first | (go_simp; done) | (go_simp; with_reducible rfl))
          try simp only [Act.put, List.setIfInBounds_toArray, List.set_cons_zero, List.set_cons_succ]
          refine wpAnyH_take (i := 15) (oi := { dst := some 128, op := Op.load 32 (Operand.tmp 21), type := 32, pos := "law.go:230", after := #[{ on := 14, ground := Ground.guard }], guard := some (14, true) }) (v := ?_) rfl (by kernel_rfl) (by kernel_rfl) (by kernel_rfl) (fun _ _ _ h => h) (Or.inl ⟨by rfl, ?_⟩) (by assumption) ?_
          rotate_left 1
          · (intro W hSW; (try dsimp only at hSW); first | (go_simp; done) | (go_simp; with_reducible rfl))
          try simp only [Act.put, List.setIfInBounds_toArray, List.set_cons_zero, List.set_cons_succ]
          refine wpAnyH_take (i := 16) (oi := { dst := some 129, op := Op.fieldAddr 27 (Operand.tmp 2) 3, type := 0, pos := "law.go:230", after := #[{ on := 14, ground := Ground.guard }], guard := some (14, true) }) (v := ?_) rfl (by kernel_rfl) (by kernel_rfl) (by kernel_rfl) (fun _ _ _ h => h) (Or.inl ⟨by rfl, ?_⟩) (by assumption) ?_
          rotate_left 1
          · (intro W hSW; (try dsimp only at hSW); first | (go_simp; done) | (go_simp; with_reducible rfl))
          try simp only [Act.put, List.setIfInBounds_toArray, List.set_cons_zero, List.set_cons_succ]
          refine wpAnyH_take (i := 17) (oi := { dst := some 130, op := Op.load 24 (Operand.tmp 129), type := 24, pos := "law.go:230", after := #[{ on := 16, ground := Ground.data }, { on := 14, ground := Ground.guard }], guard := some (14, true) }) (v := ?_) rfl (by kernel_rfl) (by kernel_rfl) (by kernel_rfl) (fun _ _ _ h => h) (Or.inl ⟨by rfl, ?_⟩) (by assumption) ?_
          rotate_left 1
          · (intro W hSW; (try dsimp only at hSW); first | (go_simp; done) | (go_simp; with_reducible rfl))
          try simp only [Act.put, List.setIfInBounds_toArray, List.set_cons_zero, List.set_cons_succ]
          refine wpAnyH_take (i := 18) (oi := { dst := some 131, op := Op.move (Operand.tmp 22), type := 33, pos := "law.go:230", after := #[{ on := 14, ground := Ground.guard }], guard := some (14, true) }) (v := ?_) rfl (by kernel_rfl) (by kernel_rfl) (by kernel_rfl) (fun _ _ _ h => h) (Or.inl ⟨by rfl, ?_⟩) (by assumption) ?_
          rotate_left 1
          · (intro W hSW; (try dsimp only at hSW); first | (go_simp; done) | (go_simp; with_reducible rfl))
          try simp only [Act.put, List.setIfInBounds_toArray, List.set_cons_zero, List.set_cons_succ]
          refine wpAnyH_take (i := 19) (oi := { dst := some 132, op := Op.move (Operand.tmp 10), type := 3, pos := "law.go:230", after := #[{ on := 14, ground := Ground.guard }], guard := some (14, true) }) (v := ?_) rfl (by kernel_rfl) (by kernel_rfl) (by kernel_rfl) (fun _ _ _ h => h) (Or.inl ⟨by rfl, ?_⟩) (by assumption) ?_
          rotate_left 1
          · (intro W hSW; (try dsimp only at hSW); first | (go_simp; done) | (go_simp; with_reducible rfl))
          try simp only [Act.put, List.setIfInBounds_toArray, List.set_cons_zero, List.set_cons_succ]
          refine wpAnyH_take (i := 20) (oi := { dst := some 133, op := Op.binOp BinOp.sub 3 (Operand.tmp 132) (Operand.const (Value.int IntKind.i64 1)) 3, type := 3, pos := "law.go:230", after := #[{ on := 19, ground := Ground.data }, { on := 14, ground := Ground.guard }], guard := some (14, true) }) (v := ?_) rfl (by kernel_rfl) (by kernel_rfl) (by kernel_rfl) (fun _ _ _ h => h) (Or.inl ⟨by rfl, ?_⟩) (by assumption) ?_
          rotate_left 1
          · (intro W hSW; (try dsimp only at hSW); first | (go_simp; done) | (go_simp; with_reducible rfl))
          try simp only [Act.put, List.setIfInBounds_toArray, List.set_cons_zero, List.set_cons_succ]
          refine wpAnyH_take (i := 21) (oi := { dst := some 134, op := Op.indexAddr 33 (Operand.tmp 131) (Operand.tmp 133), type := 0, pos := "law.go:230", after := #[{ on := 18, ground := Ground.data }, { on := 20, ground := Ground.data }, { on := 14, ground := Ground.guard }], guard := some (14, true) }) (v := ?_) rfl (by kernel_rfl) (by kernel_rfl) (by kernel_rfl) (fun _ _ _ h => h) (Or.inl ⟨by rfl, ?_⟩) (by assumption) ?_
          rotate_left 1
          · (intro W hSW; (try dsimp only at hSW); first | (go_simp; done) | (go_simp; with_reducible rfl))
          try simp only [Act.put, List.setIfInBounds_toArray, List.set_cons_zero, List.set_cons_succ]
          refine wpAnyH_take (i := 22) (oi := { dst := some 135, op := Op.load 3 (Operand.tmp 134), type := 3, pos := "law.go:230", after := #[{ on := 21, ground := Ground.data }, { on := 14, ground := Ground.guard }], guard := some (14, true) }) (v := ?_) rfl (by kernel_rfl) (by kernel_rfl) (by kernel_rfl) (fun _ _ _ h => h) (Or.inl ⟨by rfl, ?_⟩) (by assumption) ?_
          rotate_left 1
          · (intro W hSW; (try dsimp only at hSW); first | (go_simp; done) | (go_simp; with_reducible rfl))
          try simp only [Act.put, List.setIfInBounds_toArray, List.set_cons_zero, List.set_cons_succ]
          refine wpAnyH_take (i := 24) (oi := { dst := some 137, op := Op.move (Operand.tmp 23), type := 4, pos := "law.go:230", after := #[{ on := 14, ground := Ground.guard }], guard := some (14, true) }) (v := ?_) rfl (by kernel_rfl) (by kernel_rfl) (by kernel_rfl) (fun _ _ _ h => h) (Or.inl ⟨by rfl, ?_⟩) (by assumption) ?_
          rotate_left 1
          · (intro W hSW; (try dsimp only at hSW); first | (go_simp; done) | (go_simp; with_reducible rfl))
          try simp only [Act.put, List.setIfInBounds_toArray, List.set_cons_zero, List.set_cons_succ]
          refine wpAnyH_ready (rs := [23]) (by kernel_rfl) (by simp) ?_
          refine (AllReadyH.cons (o := { dst := some 136, op := Op.call { callee := Callee.value (Operand.func 18), args := #[Operand.tmp 128, Operand.tmp 130, Operand.tmp 135], argTypes := #[32, 24, 3] }, type := 4, pos := "law.go:230", after := #[{ on := 15, ground := Ground.data }, { on := 17, ground := Ground.data }, { on := 22, ground := Ground.data }, { on := 14, ground := Ground.chain }, { on := 14, ground := Ground.guard }], guard := some (14, true) }) rfl (fun K hK => ?_) AllReadyH.nil)
          rw [if_pos (by rfl)]
          go_simp
          go_at_call 18
          refine (reval_n gT vals xt false HNV.out FT.out (by have := GT.out.2.1; omega) HV20.out GT.out.1 XT.out.2 ((HT.out.grown hgr1).2.2) (HI.out.v.grown hgr1)).mono ?_
          rintro e wc2 ⟨rfl, gc2⟩
          have hgr2 := World.grownBy.trans hgr1 gc2
          go_wp2_with fail
          refine hK.out _ _ (HS.out _ hgr2) (fun hHeld => ?_)
          clear hK K
          try simp only [Act.put, List.setIfInBounds_toArray, List.set_cons_zero, List.set_cons_succ]
          refine wpAnyH_take (i := 25) (oi := { dst := some 138, op := Op.binOp BinOp.eql 4 (Operand.tmp 136) (Operand.tmp 137) 4, type := 4, pos := "law.go:230", after := #[{ on := 23, ground := Ground.data }, { on := 24, ground := Ground.data }, { on := 14, ground := Ground.guard }], guard := some (14, true) }) (v := ?_) rfl (by kernel_rfl) (by kernel_rfl) (by kernel_rfl) (fun _ _ _ h => h) (Or.inl ⟨by rfl, ?_⟩) (by assumption) ?_
          rotate_left 1
          · (intro W hSW; (try dsimp only at hSW); first | (go_simp; done) | (go_simp; with_reducible rfl))
          try simp only [Act.put, List.setIfInBounds_toArray, List.set_cons_zero, List.set_cons_succ]
          refine wpAnyH_take (i := 26) (oi := { dst := some 139, op := Op.pick (Operand.tmp 127) (Operand.tmp 138) (Operand.const (Value.bool false)), type := 4, pos := "law.go:230", after := #[{ on := 14, ground := Ground.data }, { on := 25, ground := Ground.data }], guard := none }) (v := ?_) rfl (by kernel_rfl) (by kernel_rfl) (by kernel_rfl) (fun _ _ _ h => h) (Or.inl ⟨by rfl, ?_⟩) (by assumption) ?_
          rotate_left 1
          · (intro W hSW; (try dsimp only at hSW); first | (go_simp; done) | (go_simp; with_reducible rfl))
          try simp only [Act.put, List.setIfInBounds_toArray, List.set_cons_zero, List.set_cons_succ]
          refine wpAnyH_take (i := 27) (oi := { dst := some 140, op := Op.move (Operand.tmp 139), type := 4, pos := "law.go:230", after := #[{ on := 26, ground := Ground.data }, { on := 23, ground := Ground.chain }], guard := none }) (v := ?_) rfl (by kernel_rfl) (by kernel_rfl) (by kernel_rfl) (fun _ _ _ h => h) (Or.inl ⟨by rfl, ?_⟩) (by assumption) ?_
          rotate_left 1
          · (intro W hSW; (try dsimp only at hSW); first | (go_simp; done) | (go_simp; with_reducible rfl))
          try simp only [Act.put, List.setIfInBounds_toArray, List.set_cons_zero, List.set_cons_succ]
          refine wpAnyH_take (i := 28) (oi := { dst := some 141, op := Op.load 32 (Operand.tmp 15), type := 32, pos := "law.go:230", after := #[{ on := 27, ground := Ground.guard }], guard := some (27, true) }) (v := ?_) rfl (by kernel_rfl) (by kernel_rfl) (by kernel_rfl) (fun _ _ _ h => h) (Or.inl ⟨by rfl, ?_⟩) (by assumption) ?_
          rotate_left 1
          · (intro W hSW; (try dsimp only at hSW); first | (go_simp; done) | (go_simp; with_reducible rfl))
          try simp only [Act.put, List.setIfInBounds_toArray, List.set_cons_zero, List.set_cons_succ]
          refine wpAnyH_take (i := 29) (oi := { dst := some 142, op := Op.fieldAddr 27 (Operand.tmp 2) 3, type := 0, pos := "law.go:230", after := #[{ on := 27, ground := Ground.guard }], guard := some (27, true) }) (v := ?_) rfl (by kernel_rfl) (by kernel_rfl) (by kernel_rfl) (fun _ _ _ h => h) (Or.inl ⟨by rfl, ?_⟩) (by assumption) ?_
          rotate_left 1
          · (intro W hSW; (try dsimp only at hSW); first | (go_simp; done) | (go_simp; with_reducible rfl))
          try simp only [Act.put, List.setIfInBounds_toArray, List.set_cons_zero, List.set_cons_succ]
          refine wpAnyH_take (i := 30) (oi := { dst := some 143, op := Op.load 24 (Operand.tmp 142), type := 24, pos := "law.go:230", after := #[{ on := 29, ground := Ground.data }, { on := 27, ground := Ground.guard }], guard := some (27, true) }) (v := ?_) rfl (by kernel_rfl) (by kernel_rfl) (by kernel_rfl) (fun _ _ _ h => h) (Or.inl ⟨by rfl, ?_⟩) (by assumption) ?_
          rotate_left 1
          · (intro W hSW; (try dsimp only at hSW); first | (go_simp; done) | (go_simp; with_reducible rfl))
          try simp only [Act.put, List.setIfInBounds_toArray, List.set_cons_zero, List.set_cons_succ]
          refine wpAnyH_take (i := 31) (oi := { dst := some 144, op := Op.move (Operand.tmp 16), type := 3, pos := "law.go:230", after := #[{ on := 27, ground := Ground.guard }], guard := some (27, true) }) (v := ?_) rfl (by kernel_rfl) (by kernel_rfl) (by kernel_rfl) (fun _ _ _ h => h) (Or.inl ⟨by rfl, ?_⟩) (by assumption) ?_
          rotate_left 1
          · (intro W hSW; (try dsimp only at hSW); first | (go_simp; done) | (go_simp; with_reducible rfl))
          try simp only [Act.put, List.setIfInBounds_toArray, List.set_cons_zero, List.set_cons_succ]
          refine wpAnyH_take (i := 33) (oi := { dst := some 146, op := Op.move (Operand.tmp 23), type := 4, pos := "law.go:230", after := #[{ on := 27, ground := Ground.guard }], guard := some (27, true) }) (v := ?_) rfl (by kernel_rfl) (by kernel_rfl) (by kernel_rfl) (fun _ _ _ h => h) (Or.inl ⟨by rfl, ?_⟩) (by assumption) ?_
          rotate_left 1
          · (intro W hSW; (try dsimp only at hSW); first | (go_simp; done) | (go_simp; with_reducible rfl))
          try simp only [Act.put, List.setIfInBounds_toArray, List.set_cons_zero, List.set_cons_succ]
          refine wpAnyH_ready (rs := [32]) (by kernel_rfl) (by simp) ?_
          refine (AllReadyH.cons (o := { dst := some 145, op := Op.call { callee := Callee.value (Operand.func 18), args := #[Operand.tmp 141, Operand.tmp 143, Operand.tmp 144], argTypes := #[32, 24, 3] }, type := 4, pos := "law.go:230", after := #[{ on := 28, ground := Ground.data }, { on := 30, ground := Ground.data }, { on := 31, ground := Ground.data }, { on := 27, ground := Ground.chain }, { on := 27, ground := Ground.guard }], guard := some (27, true) }) rfl (fun K hK => ?_) AllReadyH.nil)
          rw [if_pos (by rfl)]
          go_simp
          go_at_call 18
          refine (reval_n gQ vals lQ true HNV.out FQ.out (by have := GQ.out.2.1; omega) HV20.out GQ.out.1 GQ.out.2.2 ((HQ.out.grown hgr2).2.2) (HI.out.v.grown hgr2)).mono ?_
          rintro e wc3 ⟨rfl, gc3⟩
          have hgr3 := World.grownBy.trans hgr2 gc3
          go_wp2_with fail
          refine hK.out _ _ (HS.out _ hgr3) (fun hHeld => ?_)
          clear hK K
          try simp only [Act.put, List.setIfInBounds_toArray, List.set_cons_zero, List.set_cons_succ]
          refine wpAnyH_take (i := 34) (oi := { dst := some 147, op := Op.binOp BinOp.neq 4 (Operand.tmp 145) (Operand.tmp 146) 4, type := 4, pos := "law.go:230", after := #[{ on := 32, ground := Ground.data }, { on := 33, ground := Ground.data }, { on := 27, ground := Ground.guard }], guard := some (27, true) }) (v := ?_) rfl (by kernel_rfl) (by kernel_rfl) (by kernel_rfl) (fun _ _ _ h => h) (Or.inl ⟨by rfl, ?_⟩) (by assumption) ?_
          rotate_left 1
          · (intro W hSW; (try dsimp only at hSW); first | (go_simp; done) | (go_simp; with_reducible rfl))
          try simp only [Act.put, List.setIfInBounds_toArray, List.set_cons_zero, List.set_cons_succ]
          refine wpAnyH_take (i := 35) (oi := { dst := some 148, op := Op.pick (Operand.tmp 140) (Operand.tmp 147) (Operand.const (Value.bool false)), type := 4, pos := "law.go:230", after := #[{ on := 27, ground := Ground.data }, { on := 34, ground := Ground.data }], guard := none }) (v := ?_) rfl (by kernel_rfl) (by kernel_rfl) (by kernel_rfl) (fun _ _ _ h => h) (Or.inl ⟨by rfl, ?_⟩) (by assumption) ?_
          rotate_left 1
          · (intro W hSW; (try dsimp only at hSW); first | (go_simp; done) | (go_simp; with_reducible rfl))
          try simp only [Act.put, List.setIfInBounds_toArray, List.set_cons_zero, List.set_cons_succ]
          refine wpAnyH_take (i := 36) (oi := { dst := some 149, op := Op.move (Operand.tmp 148), type := 4, pos := "law.go:230", after := #[{ on := 35, ground := Ground.data }, { on := 32, ground := Ground.chain }], guard := none }) (v := ?_) rfl (by kernel_rfl) (by kernel_rfl) (by kernel_rfl) (fun _ _ _ h => h) (Or.inl ⟨by rfl, ?_⟩) (by assumption) ?_
          rotate_left 1
          · (intro W hSW; (try dsimp only at hSW); first | (go_simp; done) | (go_simp; with_reducible rfl))
          try simp only [Act.put, List.setIfInBounds_toArray, List.set_cons_zero, List.set_cons_succ]
          refine wpAnyH_take (i := 37) (oi := { dst := some 150, op := Op.move (Operand.tmp 23), type := 4, pos := "law.go:230", after := #[{ on := 36, ground := Ground.guard }], guard := some (36, true) }) (v := ?_) rfl (by kernel_rfl) (by kernel_rfl) (by kernel_rfl) (fun _ _ _ h => h) (Or.inl ⟨by rfl, ?_⟩) (by assumption) ?_
          rotate_left 1
          · (intro W hSW; (try dsimp only at hSW); first | (go_simp; done) | (go_simp; with_reducible rfl))
          try simp only [Act.put, List.setIfInBounds_toArray, List.set_cons_zero, List.set_cons_succ]
          refine wpAnyH_take (i := 38) (oi := { dst := some 151, op := Op.unOp UnOp.not 4 (Operand.tmp 150), type := 4, pos := "law.go:230", after := #[{ on := 37, ground := Ground.data }, { on := 36, ground := Ground.guard }], guard := some (36, true) }) (v := ?_) rfl (by kernel_rfl) (by kernel_rfl) (by kernel_rfl) (fun _ _ _ h => h) (Or.inl ⟨by rfl, ?_⟩) (by assumption) ?_
          rotate_left 1
          · (intro W hSW; (try dsimp only at hSW); first | (go_simp; done) | (go_simp; with_reducible rfl))
          try simp only [Act.put, List.setIfInBounds_toArray, List.set_cons_zero, List.set_cons_succ]
          refine wpAnyH_take (i := 39) (oi := { dst := some 152, op := Op.move (Operand.tmp 151), type := 4, pos := "law.go:230", after := #[{ on := 38, ground := Ground.data }, { on := 36, ground := Ground.chain }, { on := 36, ground := Ground.guard }], guard := some (36, true) }) (v := ?_) rfl (by kernel_rfl) (by kernel_rfl) (by kernel_rfl) (fun _ _ _ h => h) (Or.inl ⟨by rfl, ?_⟩) (by assumption) ?_
          rotate_left 1
          · (intro W hSW; (try dsimp only at hSW); first | (go_simp; done) | (go_simp; with_reducible rfl))
          try simp only [Act.put, List.setIfInBounds_toArray, List.set_cons_zero, List.set_cons_succ]
          refine wpAnyH_take (i := 40) (oi := { dst := some 153, op := Op.load 32 (Operand.tmp 17), type := 32, pos := "law.go:230", after := #[{ on := 39, ground := Ground.guard }], guard := some (39, false) }) (v := undef) rfl (by kernel_rfl) (by kernel_rfl) (by kernel_rfl) (fun _ _ _ h => h) (Or.inr ⟨by rfl, rfl⟩) (by assumption) ?_
          try simp only [Act.put, List.setIfInBounds_toArray, List.set_cons_zero, List.set_cons_succ]
          refine wpAnyH_take (i := 41) (oi := { dst := some 154, op := Op.fieldAddr 27 (Operand.tmp 2) 3, type := 0, pos := "law.go:230", after := #[{ on := 39, ground := Ground.guard }], guard := some (39, false) }) (v := undef) rfl (by kernel_rfl) (by kernel_rfl) (by kernel_rfl) (fun _ _ _ h => h) (Or.inr ⟨by rfl, rfl⟩) (by assumption) ?_
          try simp only [Act.put, List.setIfInBounds_toArray, List.set_cons_zero, List.set_cons_succ]
          refine wpAnyH_take (i := 42) (oi := { dst := some 155, op := Op.load 24 (Operand.tmp 154), type := 24, pos := "law.go:230", after := #[{ on := 41, ground := Ground.data }, { on := 39, ground := Ground.guard }], guard := some (39, false) }) (v := undef) rfl (by kernel_rfl) (by kernel_rfl) (by kernel_rfl) (fun _ _ _ h => h) (Or.inr ⟨by rfl, rfl⟩) (by assumption) ?_
          try simp only [Act.put, List.setIfInBounds_toArray, List.set_cons_zero, List.set_cons_succ]
          refine wpAnyH_take (i := 43) (oi := { dst := some 156, op := Op.move (Operand.tmp 18), type := 3, pos := "law.go:230", after := #[{ on := 39, ground := Ground.guard }], guard := some (39, false) }) (v := undef) rfl (by kernel_rfl) (by kernel_rfl) (by kernel_rfl) (fun _ _ _ h => h) (Or.inr ⟨by rfl, rfl⟩) (by assumption) ?_
          try simp only [Act.put, List.setIfInBounds_toArray, List.set_cons_zero, List.set_cons_succ]
          refine wpAnyH_take (i := 44) (oi := { dst := some 157, op := Op.call { callee := Callee.value (Operand.func 18), args := #[Operand.tmp 153, Operand.tmp 155, Operand.tmp 156], argTypes := #[32, 24, 3] }, type := 4, pos := "law.go:230", after := #[{ on := 40, ground := Ground.data }, { on := 42, ground := Ground.data }, { on := 43, ground := Ground.data }, { on := 39, ground := Ground.chain }, { on := 39, ground := Ground.guard }], guard := some (39, false) }) (v := undef) rfl (by kernel_rfl) (by kernel_rfl) (by kernel_rfl) (fun _ _ _ h => h) (Or.inr ⟨by rfl, rfl⟩) (by assumption) ?_
          try simp only [Act.put, List.setIfInBounds_toArray, List.set_cons_zero, List.set_cons_succ]
          refine wpAnyH_take (i := 45) (oi := { dst := some 158, op := Op.pick (Operand.tmp 152) (Operand.const (Value.bool true)) (Operand.tmp 157), type := 4, pos := "law.go:230", after := #[{ on := 39, ground := Ground.data }, { on := 44, ground := Ground.data }, { on := 36, ground := Ground.guard }], guard := some (36, true) }) (v := ?_) rfl (by kernel_rfl) (by kernel_rfl) (by kernel_rfl) (fun _ _ _ h => h) (Or.inl ⟨by rfl, ?_⟩) (by assumption) ?_
          rotate_left 1
          · (intro W hSW; (try dsimp only at hSW); first | (go_simp; done) | (go_simp; with_reducible rfl))
          try simp only [Act.put, List.setIfInBounds_toArray, List.set_cons_zero, List.set_cons_succ]
          refine wpAnyH_take (i := 46) (oi := { dst := some 159, op := Op.pick (Operand.tmp 149) (Operand.tmp 158) (Operand.const (Value.bool false)), type := 4, pos := "law.go:230", after := #[{ on := 36, ground := Ground.data }, { on := 45, ground := Ground.data }], guard := none }) (v := ?_) rfl (by kernel_rfl) (by kernel_rfl) (by kernel_rfl) (fun _ _ _ h => h) (Or.inl ⟨by rfl, ?_⟩) (by assumption) ?_
          rotate_left 1
          · (intro W hSW; (try dsimp only at hSW); first | (go_simp; done) | (go_simp; with_reducible rfl))
          try simp only [Act.put, List.setIfInBounds_toArray, List.set_cons_zero, List.set_cons_succ]
          refine wpAnyH_take (i := 47) (oi := { dst := some 4, op := Op.assign (Operand.tmp 159), type := 4, pos := "law.go:230", after := #[{ on := 46, ground := Ground.data }, { on := 44, ground := Ground.chain }, { on := 0, ground := Ground.phase }, { on := 1, ground := Ground.phase }, { on := 2, ground := Ground.phase }, { on := 3, ground := Ground.phase }, { on := 4, ground := Ground.phase }, { on := 5, ground := Ground.phase }, { on := 6, ground := Ground.phase }, { on := 7, ground := Ground.phase }, { on := 8, ground := Ground.phase }, { on := 9, ground := Ground.phase }, { on := 10, ground := Ground.phase }, { on := 11, ground := Ground.phase }, { on := 12, ground := Ground.phase }, { on := 13, ground := Ground.phase }, { on := 14, ground := Ground.phase }, { on := 15, ground := Ground.phase }, { on := 16, ground := Ground.phase }, { on := 17, ground := Ground.phase }, { on := 18, ground := Ground.phase }, { on := 19, ground := Ground.phase }, { on := 20, ground := Ground.phase }, { on := 21, ground := Ground.phase }, { on := 22, ground := Ground.phase }, { on := 23, ground := Ground.phase }, { on := 24, ground := Ground.phase }, { on := 25, ground := Ground.phase }, { on := 26, ground := Ground.phase }, { on := 27, ground := Ground.phase }, { on := 28, ground := Ground.phase }, { on := 29, ground := Ground.phase }, { on := 30, ground := Ground.phase }, { on := 31, ground := Ground.phase }, { on := 32, ground := Ground.phase }, { on := 33, ground := Ground.phase }, { on := 34, ground := Ground.phase }, { on := 35, ground := Ground.phase }, { on := 36, ground := Ground.phase }, { on := 37, ground := Ground.phase }, { on := 38, ground := Ground.phase }, { on := 39, ground := Ground.phase }, { on := 40, ground := Ground.phase }, { on := 41, ground := Ground.phase }, { on := 42, ground := Ground.phase }, { on := 43, ground := Ground.phase }, { on := 44, ground := Ground.phase }, { on := 45, ground := Ground.phase }, { on := 46, ground := Ground.phase }], guard := none }) (v := ?_) rfl (by kernel_rfl) (by kernel_rfl) (by kernel_rfl) (fun _ _ _ h => h) (Or.inl ⟨by rfl, ?_⟩) (by assumption) ?_
          rotate_left 1
          · (intro W hSW; (try dsimp only at hSW); first | (go_simp; done) | (go_simp; with_reducible rfl))
          try simp only [Act.put, List.setIfInBounds_toArray, List.set_cons_zero, List.set_cons_succ]
          refine wpAnyH_done (by kernel_rfl) ?_ _
          have hEND := hgr3
          clear hHeld
          have HE := Lib.hid (World.grownBy.trans HG.out hEND)
          clear hEND
          go_wp2_with fail
          go_ret
          exact ⟨rfl, HE.out⟩
end Go.Proofs.Ythagoihpppppkaa
