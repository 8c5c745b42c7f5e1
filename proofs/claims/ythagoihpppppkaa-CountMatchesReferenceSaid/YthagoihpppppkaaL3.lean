/- The law: all functions against the reference. -/
import Derived.Test.YthagoihpppppkaaT1
import Derived.Deep.DeepCutAuto
namespace Go.Proofs.Ythagoihpppppkaa
open Go.RowKit Go.Maps

set_option maxRecDepth 100000 in
set_option maxHeartbeats 4000000 in
theorem matches_calls (l : List Stp) (A B : List Nat) (vals : List Bool) (y : Int) (sa : Option Addr) (sc : Nat) (aa : Option Addr) (ac : Nat) (ba : Option Addr) (bcc : Nat) (va : Option Addr) (vc : Nat) (kk : Int) (w : World) (h : RawIn w l A B vals y sa sc aa ac ba bcc va vc) (hk : -9223372036854775808 ≤ kk ∧ kk ≤ 9223372036854775807) :
    Calls Try.prog 3 #[.agg #[.slice sa l.length sc, .slice aa A.length ac, .slice ba B.length bcc, .slice va vals.length vc, .int .i8 y], .int .i64 kk] w fun e w' => e = .returned (.bool true) ∧ w.grownBy w' none := by
  obtain ⟨nl, hnl⟩ : ∃ n, l.length = n := ⟨_, rfl⟩
  obtain ⟨na, hna⟩ : ∃ n, A.length = n := ⟨_, rfl⟩
  obtain ⟨nb, hnb⟩ : ∃ n, B.length = n := ⟨_, rfl⟩
  obtain ⟨nv, hnv⟩ : ∃ n, vals.length = n := ⟨_, rfl⟩
  have HN := Lib.hid (And.intro hnl (And.intro hna (And.intro hnb hnv)))
  rw [hnl, hna, hnb, hnv]
  have hg1 := World.grownBy_alloc w (.cells #[.slice sa nl sc, .slice aa na ac, .slice ba nb bcc, .slice va nv vc, .int .i8 y] 27) none
  have hq := raw_cells w sa nl sc aa na ac ba nb bcc va nv vc y
  obtain ⟨W1, hW1⟩ : ∃ z, w.alloc (.cells #[.slice sa nl sc, .slice aa na ac, .slice ba nb bcc, .slice va nv vc, .int .i8 y] 27) = z := ⟨_, rfl⟩
  rw [hW1] at hg1 hq
  obtain ⟨bX, hbX⟩ : ∃ z, w.heap.size = z := ⟨_, rfl⟩
  rw [hbX] at hq
  have HX := Lib.hid (show RawB W1 bX sa nl sc aa na ac ba nb bcc va nv vc y from ⟨hq.1, hq.2.1, hq.2.2.1, hq.2.2.2.1, hq.2.2.2.2⟩)
  have HI := Lib.hid (h.grown hg1)
  have HKK := Lib.hid hk
  have HG := Lib.hid hg1
  clear h hk hg1 hq hnl hna hnb hnv
  go_enter Try.func3, Try.ntmps3
  go_wp2_with fail
  clear hW1 hbX
  refine (head_calls _).mono ?_
  rintro e V1 ⟨rfl, g⟩
  replace HX := Lib.hid (HX.out.grown g)
  replace HI := Lib.hid (HI.out.grown g)
  replace HG := Lib.hid (World.grownBy.trans HG.out g)
  clear g
  have x0 := HX.out.c0
  have x1 := HX.out.c1
  have x2 := HX.out.c2
  have x3 := HX.out.c3
  have x4 := HX.out.c4
  go_wp2_with fail
  clear x0 x1 x2 x3 x4
  refine (great_calls _ sa nl sc aa na ac ba nb bcc va nv vc y).mono ?_
  rintro e V2 ⟨rfl, g⟩
  replace HX := Lib.hid (HX.out.grown g)
  replace HI := Lib.hid (HI.out.grown g)
  replace HG := Lib.hid (World.grownBy.trans HG.out g)
  clear g
  cases hgr : greatB nl na nb nv with
  | true =>
    go_wp2_with fail
    go_ret
    exact ⟨rfl, HG.out⟩
  | false =>
    have HGN := Lib.hid (great_no hgr)
    clear hgr
    have x0 := HX.out.c0
    have x1 := HX.out.c1
    have x2 := HX.out.c2
    have x3 := HX.out.c3
    have x4 := HX.out.c4
    go_upto_region 4 with fail
    clear x0 x1 x2 x3 x4
    have x0 := HX.out.c0
    have x1 := HX.out.c1
    have x2 := HX.out.c2
    have x3 := HX.out.c3
    have x4 := HX.out.c4
    go_wp2_with fail
    clear x0 x1 x2 x3 x4
    obtain ⟨g0, la, lb, hgd, hgl, hoa, hob, hla, hlb, hic⟩ := inputs_n l A B vals y sa sc aa ac ba bcc va vc V2 HI.out HN.out.1 HN.out.2.1 HN.out.2.2.1 ⟨HGN.out.1, HGN.out.2.1, HGN.out.2.2.1⟩
    have HGD := Lib.hid hgd
    have HL := Lib.hid hgl
    have OA := Lib.hid hoa
    have OB := Lib.hid hob
    have NA := Lib.hid hla
    have NB := Lib.hid hlb
    have HIC := Lib.hid hic
    clear hgd hgl hoa hob hla hlb hic
    refine HIC.out.mono ?_
    rintro e V3 ⟨a3, c3, b3, d3, b3x, d3x, rfl, hr, hra, hrb, g⟩
    replace HX := Lib.hid (HX.out.grown g)
    replace HI := Lib.hid (HI.out.grown g)
    replace HG := Lib.hid (World.grownBy.trans HG.out g)
    clear g
    have Rla := Lib.hid hra
    have Rlb := Lib.hid hrb
    clear hra hrb HIC
    have x0 := HX.out.c0
    have x1 := HX.out.c1
    have x2 := HX.out.c2
    have x3 := HX.out.c3
    have x4 := HX.out.c4
    go_upto_region 5 with fail
    clear x0 x1 x2 x3 x4
    have hb := CB.new hr
    have g := World.grownBy_alloc V3 (.cells #[.slice a3 g0.length c3] 32) none
    obtain ⟨V4, hV4⟩ : ∃ z, World.alloc V3 (.cells #[.slice a3 g0.length c3] 32) = z := ⟨_, rfl⟩
    rw [hV4] at g hb ⊢
    clear hV4 hr
    obtain ⟨bc, hbb⟩ : ∃ b, V3.heap.size = b := ⟨_, rfl⟩
    rw [hbb] at hb ⊢
    clear hbb
    replace HX := Lib.hid (HX.out.grown g)
    replace HI := Lib.hid (HI.out.grown g)
    replace Rla := Lib.hid (Rla.out.grown g)
    replace Rlb := Lib.hid (Rlb.out.grown g)
    replace HG := Lib.hid (World.grownBy.trans HG.out g)
    clear g
    have Hc := Lib.hid hb
    clear hb
    have HB := Lib.hid (show na ≤ 9 ∧ nb ≤ 9 from ⟨HGN.out.2.1, HGN.out.2.2.1⟩)
    obtain ⟨rS, eS⟩ : ∃ rr9, (sorterP la).run g0 = rr9 := ⟨_, rfl⟩
    obtain ⟨gS, lS⟩ := rS
    have hsz := HL.out
    have na9 : la.length ≤ 9 := by have := NA.out; have := HB.out; omega
    have nb9 : lb.length ≤ 9 := by have := NB.out; have := HB.out; omega
    have dS := sorter_den eS HGD.out (by omega) OA.out na9
    have hS1 := dS.1.len
    obtain ⟨rT, eT⟩ : ∃ rr9, (totalP 6 la).run g0 = rr9 := ⟨_, rfl⟩
    obtain ⟨gT, lT⟩ := rT
    have cT := costT9 la.length (by omega)
    have dT := total_den eT HGD.out (by omega) OA.out (by omega)
    have hT1 := dT.1.len
    obtain ⟨rP, eP⟩ : ∃ rr9, (atlP la kk).run g0 = rr9 := ⟨_, rfl⟩
    obtain ⟨gP, lP⟩ := rP
    have dP := atl_den eP HGD.out (by omega) OA.out na9
    have hP1 := dP.1.len
    obtain ⟨rQ, eQ⟩ : ∃ rr9, (atlP la (nb : Int)).run g0 = rr9 := ⟨_, rfl⟩
    obtain ⟨gQ, lQ⟩ := rQ
    have dQ := atl_den eQ HGD.out (by omega) OA.out na9
    have hQ1 := dQ.1.len
    obtain ⟨rU, eU⟩ : ∃ rr9, (countP la).run g0 = rr9 := ⟨_, rfl⟩
    obtain ⟨gU, lU⟩ := rU
    have cA := costC9 la.length (by omega)
    have cB := costC9 lb.length (by omega)
    have dU := count_den eU HGD.out (by omega) OA.out
    have hU1 := dU.1.len
    have obU : ∀ r ∈ lb, Ok gU r := fun r hr => dU.1.ok (OB.out r hr)
    obtain ⟨rV, eV⟩ : ∃ rr9, (countP lb).run gU = rr9 := ⟨_, rfl⟩
    obtain ⟨gV, lV⟩ := rV
    have dV := count_den eV dU.1.good (by omega) obU
    have hV1 := dV.1.len
    have lenU : lU.length = na := by rw [dU.2.1, NA.out]
    have lenV : lV.length = nb := by rw [dV.2.1, NB.out]
    have okU : ∀ r ∈ lU, Ok gV r := fun r hr => dV.1.ok ((dU.2.2 []).2.2 r hr)
    have okV : ∀ r ∈ lV, Ok gV r := fun r hr => (dV.2.2 []).2.2 r hr
    have cJ := costA9 lU.length (by omega) lV.length (by omega)
    obtain ⟨rJ, eJ⟩ : ∃ rr9, (addP lU lV).run gV = rr9 := ⟨_, rfl⟩
    obtain ⟨gJ, lJ⟩ := rJ
    have dJ := add_den eJ dV.1.good (by omega) okU okV
    have hJ1 := dJ.1.len
    obtain ⟨rL, eL⟩ : ∃ rr9, (lessP lU lV y).run gV = rr9 := ⟨_, rfl⟩
    obtain ⟨gL, lL⟩ := rL
    have dL := less_den eL dV.1.good (by omega) okU okV
    have hL1 := dL.1.len
    obtain ⟨n, hn⟩ : ∃ n, numV g0 vals la = n := ⟨_, rfl⟩
    obtain ⟨m, hm⟩ : ∃ n, numV g0 vals lb = n := ⟨_, rfl⟩
    have DS0 : Den gS vals lS n := by rw [← hn]; exact dS.2.2 vals
    have DT0 : Den gT vals lT n := by rw [← hn]; exact dT.2.2 vals
    have DU0 : Den gV vals lU n := by rw [← hn]; exact (dU.2.2 vals).grow dV.1
    have DV0 : Den gV vals lV m := by have h := dV.2.2 vals; rw [num_grow dU.1 OB.out, hm] at h; exact h
    have DJ0 := dJ.2.2.2 vals n m DU0 DV0
    have EL0 := dL.2.2 vals n m DU0 DV0
    have EP0 := dP.2.2.2.2 vals
    have EQ0 := dQ.2.2.2.2 vals
    rw [hn] at EP0 EQ0
    have n9 : n ≤ na := by have := DS0.2.1; rw [dS.2.1, NA.out] at this; exact this
    have m9 : m ≤ nb := by have := DV0.2.1; omega
    obtain ⟨nm, hnm⟩ : ∃ z, n + m = z := ⟨_, rfl⟩
    rw [hnm] at DJ0
    obtain ⟨nab, hnab⟩ : ∃ z, na + nb = z := ⟨_, rfl⟩
    have HNM := Lib.hid (show n + m = nm ∧ n ≤ 9 ∧ m ≤ 9 ∧ na + nb = nab ∧ nab ≤ 18 from ⟨hnm, by have := HB.out; omega, by have := HB.out; omega, hnab, by have := HB.out; omega⟩)
    have NE := Lib.hid (show numE g0 vals la = n ∧ numE g0 vals lb = m from ⟨by rw [num_eq OA.out, hn], by rw [num_eq OB.out, hm]⟩)
    have GXs := Lib.hid (show (Good gS ∧ gS.length ≤ 990) ∧ (Good gT ∧ gT.length ≤ 990) ∧ (Good gP ∧ gP.length ≤ 990 ∧ lP ≤ 9223372036854775807) ∧ (Good gQ ∧ gQ.length ≤ 990 ∧ lQ ≤ 9223372036854775807) ∧ (Good gV ∧ gV.length ≤ 990) ∧ (Good gJ ∧ gJ.length ≤ 990) ∧ (Good gL ∧ gL.length ≤ 990 ∧ lL ≤ 9223372036854775807) from ⟨⟨dS.1.good, by omega⟩, ⟨dT.1.good, by omega⟩, ⟨dP.1.good, by omega, ok_i64 (by omega) dP.2.1⟩, ⟨dQ.1.good, by omega, ok_i64 (by omega) dQ.2.1⟩, ⟨dV.1.good, by omega⟩, ⟨dJ.1.good, by omega⟩, ⟨dL.1.good, by omega, ok_i64 (by omega) dL.2.1⟩⟩)
    have DX := Lib.hid (And.intro DS0 (And.intro DT0 (And.intro DU0 (And.intro DV0 DJ0))))
    have EX := Lib.hid (And.intro EP0 (And.intro EQ0 EL0))
    have RP := Lib.hid (And.intro dP.2.2.1 dP.2.2.2.1)
    have LX := Lib.hid (show lS.length = na ∧ lT.length = na ∧ lU.length = na ∧ lV.length = nb ∧ lJ.length = nab from ⟨by rw [dS.2.1, NA.out], by rw [dT.2.1, NA.out], lenU, lenV, by rw [dJ.2.1, lenU, lenV, hnab]⟩)
    have HY := Lib.hid HI.out.oky
    have HCS := Lib.hid (fun (W : World) (a : Option Addr) (c : Nat) (b : Option Addr) (d : Nat) (hW : GatesW W a c g0) (hr : IntsW W b d la) => sorter_n NA.out eS HGD.out (by omega) OA.out (by omega) hW hr)
    have HCT := Lib.hid (fun (W : World) (a : Option Addr) (c : Nat) (b : Option Addr) (d : Nat) (hW : GatesW W a c g0) (hr : IntsW W b d la) => totalizer_n NA.out eT HGD.out OA.out (by omega) (by omega) hW hr)
    have HCP := Lib.hid (fun (W : World) (a : Option Addr) (c : Nat) (b : Option Addr) (d : Nat) (hW : GatesW W a c g0) (hr : IntsW W b d la) => atleast_n NA.out eP HGD.out (by omega) OA.out (by omega) hW hr)
    have HCQ := Lib.hid (fun (W : World) (a : Option Addr) (c : Nat) (b : Option Addr) (d : Nat) (hW : GatesW W a c g0) (hr : IntsW W b d la) => atleast_n NA.out eQ HGD.out (by omega) OA.out (by omega) hW hr)
    have HCU := Lib.hid (fun (W : World) (a : Option Addr) (c : Nat) (b : Option Addr) (d : Nat) (hW : GatesW W a c g0) (hr : IntsW W b d la) => count_n NA.out eU HGD.out OA.out (by omega) (by omega) hW hr)
    have HCV := Lib.hid (fun (W : World) (a : Option Addr) (c : Nat) (b : Option Addr) (d : Nat) (hW : GatesW W a c gU) (hr : IntsW W b d lb) => count_n NB.out eV dU.1.good obU (by omega) (by omega) hW hr)
    have HCJ := Lib.hid (fun (W : World) (a : Option Addr) (c : Nat) (b : Option Addr) (d : Nat) (b2 : Option Addr) (d2 : Nat) (hW : GatesW W a c gV) (hr : IntsW W b d lU) (hr2 : IntsW W b2 d2 lV) => add_n lenU lenV hnab eJ dV.1.good okU okV (by omega) (by omega) (by omega) hW hr hr2)
    have HCL := Lib.hid (fun (W : World) (a : Option Addr) (c : Nat) (b : Option Addr) (d : Nat) (b2 : Option Addr) (d2 : Nat) (hW : GatesW W a c gV) (hr : IntsW W b d lU) (hr2 : IntsW W b2 d2 lV) => less_n lenU lenV eL dV.1.good okU okV (by omega) (by omega) (by omega) (by have := HY.out; omega) hW hr hr2)
    have HNV := Lib.hid HN.out.2.2.2
    have HV20 := Lib.hid (show vals.length ≤ 1000 from by have := HN.out.2.2.2; have := HGN.out.2.2.2; omega)
    have HLN := Lib.hid (And.intro na9 nb9)
    clear eS eT eP eQ eU eV eJ eL dS dT dP dQ dU dV dJ dL hS1 hT1 hP1 hQ1 hU1 hV1 hJ1 hL1 cT cA cB cJ obU lenU lenV okU okV hn hm hnm hnab DS0 DT0 DU0 DV0 DJ0 EL0 EP0 EQ0 n9 m9 na9 nb9 hsz
    have qc := Hc.out.1
    have x0 := HX.out.c0
    have x1 := HX.out.c1
    have x2 := HX.out.c2
    have x3 := HX.out.c3
    have x4 := HX.out.c4
    go_wp2_with fail
    clear qc x0 x1 x2 x3 x4
    refine (number_n NA.out HNV.out NE.out.1 HGD.out (by have := HL.out; omega) (by have := NA.out; have := HB.out; have := HNM.out; omega) HV20.out (ok_le (by have := HL.out; omega) OA.out) Hc.out.2.2 Rla.out HI.out.v).mono ?_
    rintro e V5 ⟨rfl, g⟩
    replace Hc := Lib.hid (Hc.out.grown g)
    replace HX := Lib.hid (HX.out.grown g)
    replace HI := Lib.hid (HI.out.grown g)
    replace Rla := Lib.hid (Rla.out.grown g)
    replace Rlb := Lib.hid (Rlb.out.grown g)
    replace HG := Lib.hid (World.grownBy.trans HG.out g)
    clear g
    have qc := Hc.out.1
    have x0 := HX.out.c0
    have x1 := HX.out.c1
    have x2 := HX.out.c2
    have x3 := HX.out.c3
    have x4 := HX.out.c4
    go_wp2_with fail
    clear qc x0 x1 x2 x3 x4
    refine (number_n NB.out HNV.out NE.out.2 HGD.out (by have := HL.out; omega) (by have := NB.out; have := HB.out; have := HNM.out; omega) HV20.out (ok_le (by have := HL.out; omega) OB.out) Hc.out.2.2 Rlb.out HI.out.v).mono ?_
    rintro e V6 ⟨rfl, g⟩
    replace Hc := Lib.hid (Hc.out.grown g)
    replace HX := Lib.hid (HX.out.grown g)
    replace HI := Lib.hid (HI.out.grown g)
    replace Rla := Lib.hid (Rla.out.grown g)
    replace Rlb := Lib.hid (Rlb.out.grown g)
    replace HG := Lib.hid (World.grownBy.trans HG.out g)
    clear g
    have qc := Hc.out.1
    have x0 := HX.out.c0
    have x1 := HX.out.c1
    have x2 := HX.out.c2
    have x3 := HX.out.c3
    have x4 := HX.out.c4
    go_wp2_with fail
    clear qc x0 x1 x2 x3 x4
    refine (HCS.out _ _ _ _ _ Hc.out.2.2 Rla.out).mono ?_
    rintro e V7 ⟨a7, c7, b7, d7, rfl, hr, hrow, g⟩
    replace Hc := Lib.hid (Hc.out.grown g)
    replace HX := Lib.hid (HX.out.grown g)
    replace HI := Lib.hid (HI.out.grown g)
    replace Rla := Lib.hid (Rla.out.grown g)
    replace Rlb := Lib.hid (Rlb.out.grown g)
    replace HG := Lib.hid (World.grownBy.trans HG.out g)
    clear g
    have RlS := Lib.hid hrow
    clear hrow
    have qc := Hc.out.1
    have x0 := HX.out.c0
    have x1 := HX.out.c1
    have x2 := HX.out.c2
    have x3 := HX.out.c3
    have x4 := HX.out.c4
    go_upto_region 8 with fail
    clear qc x0 x1 x2 x3 x4
    have hb := CB.new hr
    have g := World.grownBy_alloc V7 (.cells #[.slice a7 gS.length c7] 32) none
    obtain ⟨V8, hV8⟩ : ∃ z, World.alloc V7 (.cells #[.slice a7 gS.length c7] 32) = z := ⟨_, rfl⟩
    rw [hV8] at g hb ⊢
    clear hV8 hr
    obtain ⟨bSo, hbb⟩ : ∃ b, V7.heap.size = b := ⟨_, rfl⟩
    rw [hbb] at hb ⊢
    clear hbb
    replace Hc := Lib.hid (Hc.out.grown g)
    replace HX := Lib.hid (HX.out.grown g)
    replace HI := Lib.hid (HI.out.grown g)
    replace Rla := Lib.hid (Rla.out.grown g)
    replace Rlb := Lib.hid (Rlb.out.grown g)
    replace RlS := Lib.hid (RlS.out.grown g)
    replace HG := Lib.hid (World.grownBy.trans HG.out g)
    clear g
    have HSo := Lib.hid hb
    clear hb
    have qc := Hc.out.1
    have qSo := HSo.out.1
    have x0 := HX.out.c0
    have x1 := HX.out.c1
    have x2 := HX.out.c2
    have x3 := HX.out.c3
    have x4 := HX.out.c4
    go_wp2_with fail
    clear qc qSo x0 x1 x2 x3 x4
    refine (HCT.out _ _ _ _ _ Hc.out.2.2 Rla.out).mono ?_
    rintro e V9 ⟨a9, c9, b9, d9, rfl, hr, hrow, g⟩
    replace Hc := Lib.hid (Hc.out.grown g)
    replace HSo := Lib.hid (HSo.out.grown g)
    replace HX := Lib.hid (HX.out.grown g)
    replace HI := Lib.hid (HI.out.grown g)
    replace Rla := Lib.hid (Rla.out.grown g)
    replace Rlb := Lib.hid (Rlb.out.grown g)
    replace RlS := Lib.hid (RlS.out.grown g)
    replace HG := Lib.hid (World.grownBy.trans HG.out g)
    clear g
    have RlT := Lib.hid hrow
    clear hrow
    have qc := Hc.out.1
    have qSo := HSo.out.1
    have x0 := HX.out.c0
    have x1 := HX.out.c1
    have x2 := HX.out.c2
    have x3 := HX.out.c3
    have x4 := HX.out.c4
    go_upto_region 9 with fail
    clear qc qSo x0 x1 x2 x3 x4
    have hb := CB.new hr
    have g := World.grownBy_alloc V9 (.cells #[.slice a9 gT.length c9] 32) none
    obtain ⟨V10, hV10⟩ : ∃ z, World.alloc V9 (.cells #[.slice a9 gT.length c9] 32) = z := ⟨_, rfl⟩
    rw [hV10] at g hb ⊢
    clear hV10 hr
    obtain ⟨bT, hbb⟩ : ∃ b, V9.heap.size = b := ⟨_, rfl⟩
    rw [hbb] at hb ⊢
    clear hbb
    replace Hc := Lib.hid (Hc.out.grown g)
    replace HSo := Lib.hid (HSo.out.grown g)
    replace HX := Lib.hid (HX.out.grown g)
    replace HI := Lib.hid (HI.out.grown g)
    replace Rla := Lib.hid (Rla.out.grown g)
    replace Rlb := Lib.hid (Rlb.out.grown g)
    replace RlS := Lib.hid (RlS.out.grown g)
    replace RlT := Lib.hid (RlT.out.grown g)
    replace HG := Lib.hid (World.grownBy.trans HG.out g)
    clear g
    have HT := Lib.hid hb
    clear hb
    have fe : (((na : Nat) : Int) == ((na : Nat) : Int)) = true := by simp
    have fe2 : (na == na) = true := by simp
    have qc := Hc.out.1
    have qSo := HSo.out.1
    have qT := HT.out.1
    have x0 := HX.out.c0
    have x1 := HX.out.c1
    have x2 := HX.out.c2
    have x3 := HX.out.c3
    have x4 := HX.out.c4
    go_wp2_with fail
    clear qc qSo qT x0 x1 x2 x3 x4
    refine (unary_n LX.out.1 HNV.out DX.out.1.un GXs.out.1.1 (by have := GXs.out.1.2; omega) (by have := LX.out.1; have := HB.out; have := HNM.out; omega) HV20.out (ok_le (by have := GXs.out.1.2; omega) DX.out.1.2.2) (by have := HNM.out; omega) HSo.out.2.2 RlS.out HI.out.v).mono ?_
    rintro e V11 ⟨rfl, g⟩
    replace Hc := Lib.hid (Hc.out.grown g)
    replace HSo := Lib.hid (HSo.out.grown g)
    replace HT := Lib.hid (HT.out.grown g)
    replace HX := Lib.hid (HX.out.grown g)
    replace HI := Lib.hid (HI.out.grown g)
    replace Rla := Lib.hid (Rla.out.grown g)
    replace Rlb := Lib.hid (Rlb.out.grown g)
    replace RlS := Lib.hid (RlS.out.grown g)
    replace RlT := Lib.hid (RlT.out.grown g)
    replace HG := Lib.hid (World.grownBy.trans HG.out g)
    clear g
    have qc := Hc.out.1
    have qSo := HSo.out.1
    have qT := HT.out.1
    have x0 := HX.out.c0
    have x1 := HX.out.c1
    have x2 := HX.out.c2
    have x3 := HX.out.c3
    have x4 := HX.out.c4
    go_wp2_with fail
    clear qc qSo qT x0 x1 x2 x3 x4
    refine (unary_n LX.out.2.1 HNV.out DX.out.2.1.un GXs.out.2.1.1 (by have := GXs.out.2.1.2; omega) (by have := LX.out.2.1; have := HB.out; have := HNM.out; omega) HV20.out (ok_le (by have := GXs.out.2.1.2; omega) DX.out.2.1.2.2) (by have := HNM.out; omega) HT.out.2.2 RlT.out HI.out.v).mono ?_
    rintro e V12 ⟨rfl, g⟩
    replace Hc := Lib.hid (Hc.out.grown g)
    replace HSo := Lib.hid (HSo.out.grown g)
    replace HT := Lib.hid (HT.out.grown g)
    replace HX := Lib.hid (HX.out.grown g)
    replace HI := Lib.hid (HI.out.grown g)
    replace Rla := Lib.hid (Rla.out.grown g)
    replace Rlb := Lib.hid (Rlb.out.grown g)
    replace RlS := Lib.hid (RlS.out.grown g)
    replace RlT := Lib.hid (RlT.out.grown g)
    replace HG := Lib.hid (World.grownBy.trans HG.out g)
    clear g
    have qc := Hc.out.1
    have qSo := HSo.out.1
    have qT := HT.out.1
    have x0 := HX.out.c0
    have x1 := HX.out.c1
    have x2 := HX.out.c2
    have x3 := HX.out.c3
    have x4 := HX.out.c4
    go_upto_region 11 with fail
    clear qc qSo qT x0 x1 x2 x3 x4
    clear fe fe2
    have qc := Hc.out.1
    have qSo := HSo.out.1
    have qT := HT.out.1
    have x0 := HX.out.c0
    have x1 := HX.out.c1
    have x2 := HX.out.c2
    have x3 := HX.out.c3
    have x4 := HX.out.c4
    go_wp2_with fail
    clear qc qSo qT x0 x1 x2 x3 x4
    refine (HCP.out _ _ _ _ _ Hc.out.2.2 Rla.out).mono ?_
    rintro e V13 ⟨a13, c13, rfl, hr, g⟩
    replace Hc := Lib.hid (Hc.out.grown g)
    replace HSo := Lib.hid (HSo.out.grown g)
    replace HT := Lib.hid (HT.out.grown g)
    replace HX := Lib.hid (HX.out.grown g)
    replace HI := Lib.hid (HI.out.grown g)
    replace Rla := Lib.hid (Rla.out.grown g)
    replace Rlb := Lib.hid (Rlb.out.grown g)
    replace RlS := Lib.hid (RlS.out.grown g)
    replace RlT := Lib.hid (RlT.out.grown g)
    replace HG := Lib.hid (World.grownBy.trans HG.out g)
    clear g
    have qc := Hc.out.1
    have qSo := HSo.out.1
    have qT := HT.out.1
    have x0 := HX.out.c0
    have x1 := HX.out.c1
    have x2 := HX.out.c2
    have x3 := HX.out.c3
    have x4 := HX.out.c4
    go_upto_region 12 with fail
    clear qc qSo qT x0 x1 x2 x3 x4
    have hb := CB.new hr
    have g := World.grownBy_alloc V13 (.cells #[.slice a13 gP.length c13] 32) none
    obtain ⟨V14, hV14⟩ : ∃ z, World.alloc V13 (.cells #[.slice a13 gP.length c13] 32) = z := ⟨_, rfl⟩
    rw [hV14] at g hb ⊢
    clear hV14 hr
    obtain ⟨bP, hbb⟩ : ∃ b, V13.heap.size = b := ⟨_, rfl⟩
    rw [hbb] at hb ⊢
    clear hbb
    replace Hc := Lib.hid (Hc.out.grown g)
    replace HSo := Lib.hid (HSo.out.grown g)
    replace HT := Lib.hid (HT.out.grown g)
    replace HX := Lib.hid (HX.out.grown g)
    replace HI := Lib.hid (HI.out.grown g)
    replace Rla := Lib.hid (Rla.out.grown g)
    replace Rlb := Lib.hid (Rlb.out.grown g)
    replace RlS := Lib.hid (RlS.out.grown g)
    replace RlT := Lib.hid (RlT.out.grown g)
    replace HG := Lib.hid (World.grownBy.trans HG.out g)
    clear g
    have HP := Lib.hid hb
    clear hb
    have qc := Hc.out.1
    have qSo := HSo.out.1
    have qT := HT.out.1
    have qP := HP.out.1
    have x0 := HX.out.c0
    have x1 := HX.out.c1
    have x2 := HX.out.c2
    have x3 := HX.out.c3
    have x4 := HX.out.c4
    go_wp2_with fail
    clear qc qSo qT qP x0 x1 x2 x3 x4
    refine (HCQ.out _ _ _ _ _ Hc.out.2.2 Rla.out).mono ?_
    rintro e V15 ⟨a15, c15, rfl, hr, g⟩
    replace Hc := Lib.hid (Hc.out.grown g)
    replace HSo := Lib.hid (HSo.out.grown g)
    replace HT := Lib.hid (HT.out.grown g)
    replace HP := Lib.hid (HP.out.grown g)
    replace HX := Lib.hid (HX.out.grown g)
    replace HI := Lib.hid (HI.out.grown g)
    replace Rla := Lib.hid (Rla.out.grown g)
    replace Rlb := Lib.hid (Rlb.out.grown g)
    replace RlS := Lib.hid (RlS.out.grown g)
    replace RlT := Lib.hid (RlT.out.grown g)
    replace HG := Lib.hid (World.grownBy.trans HG.out g)
    clear g
    have qc := Hc.out.1
    have qSo := HSo.out.1
    have qT := HT.out.1
    have qP := HP.out.1
    have x0 := HX.out.c0
    have x1 := HX.out.c1
    have x2 := HX.out.c2
    have x3 := HX.out.c3
    have x4 := HX.out.c4
    go_upto_region 13 with fail
    clear qc qSo qT qP x0 x1 x2 x3 x4
    have hb := CB.new hr
    have g := World.grownBy_alloc V15 (.cells #[.slice a15 gQ.length c15] 32) none
    obtain ⟨V16, hV16⟩ : ∃ z, World.alloc V15 (.cells #[.slice a15 gQ.length c15] 32) = z := ⟨_, rfl⟩
    rw [hV16] at g hb ⊢
    clear hV16 hr
    obtain ⟨bQ, hbb⟩ : ∃ b, V15.heap.size = b := ⟨_, rfl⟩
    rw [hbb] at hb ⊢
    clear hbb
    replace Hc := Lib.hid (Hc.out.grown g)
    replace HSo := Lib.hid (HSo.out.grown g)
    replace HT := Lib.hid (HT.out.grown g)
    replace HP := Lib.hid (HP.out.grown g)
    replace HX := Lib.hid (HX.out.grown g)
    replace HI := Lib.hid (HI.out.grown g)
    replace Rla := Lib.hid (Rla.out.grown g)
    replace Rlb := Lib.hid (Rlb.out.grown g)
    replace RlS := Lib.hid (RlS.out.grown g)
    replace RlT := Lib.hid (RlT.out.grown g)
    replace HG := Lib.hid (World.grownBy.trans HG.out g)
    clear g
    have HQ := Lib.hid hb
    clear hb
    obtain ⟨pv, hpv⟩ : ∃ p, decide (kk ≤ (n : Int)) = p := ⟨_, rfl⟩
    obtain ⟨qv, hqv⟩ : ∃ p, decide ((nb : Int) ≤ (n : Int)) = p := ⟨_, rfl⟩
    have hqv2 : decide (nb ≤ n) = qv := by rw [← hqv]; exact decide_eq_decide.2 (by omega)
    have FP := Lib.hid (show evalC gP vals lP = pv from EX.out.1.trans hpv)
    have FQ := Lib.hid (show evalC gQ vals lQ = qv from EX.out.2.1.trans hqv)
    go_cut [144] (fun s0 wx => s0 = .bool false ∧ V16.grownBy wx none)
    case first =>
      have HRP := Lib.hid (show (kk ≤ 0 ∧ ¬ (na : Int) < kk ∧ lP = 0) ∨ (¬ kk ≤ 0 ∧ (na : Int) < kk ∧ lP = 1) ∨ (¬ kk ≤ 0 ∧ ¬ (na : Int) < kk) from by
        by_cases h1 : kk ≤ 0
        · exact .inl ⟨h1, by omega, RP.out.1 h1⟩
        · by_cases h2 : (na : Int) < kk
          · exact .inr (.inl ⟨h1, h2, RP.out.2 (by rw [NA.out]; exact h2)⟩)
          · exact .inr (.inr ⟨h1, h2⟩))
      rcases HRP.out with ⟨h1, h2, h3⟩ | ⟨h1, h2, h3⟩ | ⟨h1, h2⟩
      · have f1 : decide (kk ≤ 0) = true := decide_eq_true h1
        have f2 : decide ((na : Int) < kk) = false := decide_eq_false h2
        subst h3
        clear h1 h2
        have HS := Lib.hid (fun (Wh : World) (hWh : V16.grownBy Wh none) => (⟨hWh, hWh.cell HP.out.1 (by simp), hWh.cell HQ.out.1 (by simp), hWh.cell HX.out.c3 (by simp), hWh.cell HX.out.c2 (by simp)⟩ : (fun Wh : World => V16.grownBy Wh none ∧ Wh.cell? ⟨bP, 0, none⟩ = some (.slice a13 gP.length c13) ∧ Wh.cell? ⟨bQ, 0, none⟩ = some (.slice a15 gQ.length c15) ∧ Wh.cell? ⟨bX, 3, none⟩ = some (.slice va nv vc) ∧ Wh.cell? ⟨bX, 2, none⟩ = some (.slice ba nb bcc)) Wh))
        have hdr : V16.grownBy V16.drew none := ⟨rfl, rfl, rfl, Nat.le_refl _, fun _ _ _ => rfl⟩
        refine wp_region_held_drew (S := (fun Wh : World => V16.grownBy Wh none ∧ Wh.cell? ⟨bP, 0, none⟩ = some (.slice a13 gP.length c13) ∧ Wh.cell? ⟨bQ, 0, none⟩ = some (.slice a15 gQ.length c15) ∧ Wh.cell? ⟨bX, 3, none⟩ = some (.slice va nv vc) ∧ Wh.cell? ⟨bX, 2, none⟩ = some (.slice ba nb bcc))) (by kernel_rfl) (HS.out _ hdr) (fun hHeld => ?_)
        refine wpAnyH_take (i := 0) (oi := { dst := some 105, op := Op.load 32 (Operand.tmp 15), type := 32, pos := "law.go:73", after := #[], guard := none }) (v := ?_) rfl (by kernel_rfl) (by kernel_rfl) (by kernel_rfl) (fun _ _ _ h => h) (Or.inl ⟨by rfl, ?_⟩) (by assumption) ?_
        rotate_left 1
        · (intro W hSW; (try dsimp only at hSW); first | (go_simp; done) | (go_simp; with_reducible rfl))
        try simp only [Act.put, List.setIfInBounds_toArray, List.set_cons_zero, List.set_cons_succ]
        refine wpAnyH_take (i := 1) (oi := { dst := some 106, op := Op.fieldAddr 27 (Operand.tmp 2) 3, type := 0, pos := "law.go:73", after := #[], guard := none }) (v := ?_) rfl (by kernel_rfl) (by kernel_rfl) (by kernel_rfl) (fun _ _ _ h => h) (Or.inl ⟨by rfl, ?_⟩) (by assumption) ?_
        rotate_left 1
        · (intro W hSW; (try dsimp only at hSW); first | (go_simp; done) | (go_simp; with_reducible rfl))
        try simp only [Act.put, List.setIfInBounds_toArray, List.set_cons_zero, List.set_cons_succ]
        refine wpAnyH_take (i := 2) (oi := { dst := some 107, op := Op.load 24 (Operand.tmp 106), type := 24, pos := "law.go:73", after := #[{ on := 1, ground := Ground.data }], guard := none }) (v := ?_) rfl (by kernel_rfl) (by kernel_rfl) (by kernel_rfl) (fun _ _ _ h => h) (Or.inl ⟨by rfl, ?_⟩) (by assumption) ?_
        rotate_left 1
        · (intro W hSW; (try dsimp only at hSW); first | (go_simp; done) | (go_simp; with_reducible rfl))
        try simp only [Act.put, List.setIfInBounds_toArray, List.set_cons_zero, List.set_cons_succ]
        refine wpAnyH_take (i := 3) (oi := { dst := some 108, op := Op.move (Operand.tmp 16), type := 3, pos := "law.go:73", after := #[], guard := none }) (v := ?_) rfl (by kernel_rfl) (by kernel_rfl) (by kernel_rfl) (fun _ _ _ h => h) (Or.inl ⟨by rfl, ?_⟩) (by assumption) ?_
        rotate_left 1
        · (intro W hSW; (try dsimp only at hSW); first | (go_simp; done) | (go_simp; with_reducible rfl))
        try simp only [Act.put, List.setIfInBounds_toArray, List.set_cons_zero, List.set_cons_succ]
        refine wpAnyH_take (i := 5) (oi := { dst := some 110, op := Op.move (Operand.tmp 9), type := 3, pos := "law.go:73", after := #[], guard := none }) (v := ?_) rfl (by kernel_rfl) (by kernel_rfl) (by kernel_rfl) (fun _ _ _ h => h) (Or.inl ⟨by rfl, ?_⟩) (by assumption) ?_
        rotate_left 1
        · (intro W hSW; (try dsimp only at hSW); first | (go_simp; done) | (go_simp; with_reducible rfl))
        try simp only [Act.put, List.setIfInBounds_toArray, List.set_cons_zero, List.set_cons_succ]
        refine wpAnyH_take (i := 6) (oi := { dst := some 111, op := Op.move (Operand.tmp 1), type := 3, pos := "law.go:73", after := #[], guard := none }) (v := ?_) rfl (by kernel_rfl) (by kernel_rfl) (by kernel_rfl) (fun _ _ _ h => h) (Or.inl ⟨by rfl, ?_⟩) (by assumption) ?_
        rotate_left 1
        · (intro W hSW; (try dsimp only at hSW); first | (go_simp; done) | (go_simp; with_reducible rfl))
        try simp only [Act.put, List.setIfInBounds_toArray, List.set_cons_zero, List.set_cons_succ]
        refine wpAnyH_take (i := 7) (oi := { dst := some 112, op := Op.binOp BinOp.geq 3 (Operand.tmp 110) (Operand.tmp 111) 3, type := 4, pos := "law.go:73", after := #[{ on := 5, ground := Ground.data }, { on := 6, ground := Ground.data }], guard := none }) (v := ?_) rfl (by kernel_rfl) (by kernel_rfl) (by kernel_rfl) (fun _ _ _ h => h) (Or.inl ⟨by rfl, ?_⟩) (by assumption) ?_
        rotate_left 1
        · (intro W hSW; (try dsimp only at hSW); first | (go_simp; done) | (go_simp; with_reducible rfl))
        try simp only [Act.put, List.setIfInBounds_toArray, List.set_cons_zero, List.set_cons_succ]
        refine wpAnyH_ready (rs := [4]) (by kernel_rfl) (by simp) ?_
        refine (AllReadyH.cons (o := { dst := some 109, op := Op.call { callee := Callee.value (Operand.func 18), args := #[Operand.tmp 105, Operand.tmp 107, Operand.tmp 108], argTypes := #[32, 24, 3] }, type := 4, pos := "law.go:73", after := #[{ on := 0, ground := Ground.data }, { on := 2, ground := Ground.data }, { on := 3, ground := Ground.data }], guard := none }) rfl (fun K hK => ?_) AllReadyH.nil)
        rw [if_pos (by rfl)]
        go_simp
        go_at_call 18
        refine (reval_n gP vals 0 pv HNV.out FP.out (by have := GXs.out.2.2.1.2.1; omega) HV20.out GXs.out.2.2.1.1 GXs.out.2.2.1.2.2 ((HP.out.grown hdr).2.2) (HI.out.v.grown hdr)).mono ?_
        rintro e wc1 ⟨rfl, gc1⟩
        have hgr1 := World.grownBy.trans hdr gc1
        go_wp2_with fail
        refine hK.out _ _ (HS.out _ hgr1) (fun hHeld => ?_)
        clear hK K
        try simp only [Act.put, List.setIfInBounds_toArray, List.set_cons_zero, List.set_cons_succ]
        refine wpAnyH_take (i := 8) (oi := { dst := some 113, op := Op.binOp BinOp.neq 4 (Operand.tmp 109) (Operand.tmp 112) 4, type := 4, pos := "law.go:73", after := #[{ on := 4, ground := Ground.data }, { on := 7, ground := Ground.data }], guard := none }) (v := ?_) rfl (by kernel_rfl) (by kernel_rfl) (by kernel_rfl) (fun _ _ _ h => h) (Or.inl ⟨by rfl, ?_⟩) (by assumption) ?_
        rotate_left 1
        · (intro W hSW; (try dsimp only at hSW); first | (go_simp; done) | (go_simp; with_reducible rfl))
        try simp only [Act.put, List.setIfInBounds_toArray, List.set_cons_zero, List.set_cons_succ]
        refine wpAnyH_take (i := 9) (oi := { dst := some 114, op := Op.move (Operand.tmp 113), type := 4, pos := "law.go:73", after := #[{ on := 8, ground := Ground.data }, { on := 4, ground := Ground.chain }], guard := none }) (v := ?_) rfl (by kernel_rfl) (by kernel_rfl) (by kernel_rfl) (fun _ _ _ h => h) (Or.inl ⟨by rfl, ?_⟩) (by assumption) ?_
        rotate_left 1
        · (intro W hSW; (try dsimp only at hSW); first | (go_simp; done) | (go_simp; with_reducible rfl))
        try simp only [Act.put, List.setIfInBounds_toArray, List.set_cons_zero, List.set_cons_succ]
        refine wpAnyH_take (i := 10) (oi := { dst := some 115, op := Op.load 32 (Operand.tmp 17), type := 32, pos := "law.go:73", after := #[{ on := 9, ground := Ground.guard }], guard := some (9, false) }) (v := ?_) rfl (by kernel_rfl) (by kernel_rfl) (by kernel_rfl) (fun _ _ _ h => h) (Or.inl ⟨by rfl, ?_⟩) (by assumption) ?_
        rotate_left 1
        · (intro W hSW; (try dsimp only at hSW); first | (go_simp; done) | (go_simp; with_reducible rfl))
        try simp only [Act.put, List.setIfInBounds_toArray, List.set_cons_zero, List.set_cons_succ]
        refine wpAnyH_take (i := 11) (oi := { dst := some 116, op := Op.fieldAddr 27 (Operand.tmp 2) 3, type := 0, pos := "law.go:73", after := #[{ on := 9, ground := Ground.guard }], guard := some (9, false) }) (v := ?_) rfl (by kernel_rfl) (by kernel_rfl) (by kernel_rfl) (fun _ _ _ h => h) (Or.inl ⟨by rfl, ?_⟩) (by assumption) ?_
        rotate_left 1
        · (intro W hSW; (try dsimp only at hSW); first | (go_simp; done) | (go_simp; with_reducible rfl))
        try simp only [Act.put, List.setIfInBounds_toArray, List.set_cons_zero, List.set_cons_succ]
        refine wpAnyH_take (i := 12) (oi := { dst := some 117, op := Op.load 24 (Operand.tmp 116), type := 24, pos := "law.go:73", after := #[{ on := 11, ground := Ground.data }, { on := 9, ground := Ground.guard }], guard := some (9, false) }) (v := ?_) rfl (by kernel_rfl) (by kernel_rfl) (by kernel_rfl) (fun _ _ _ h => h) (Or.inl ⟨by rfl, ?_⟩) (by assumption) ?_
        rotate_left 1
        · (intro W hSW; (try dsimp only at hSW); first | (go_simp; done) | (go_simp; with_reducible rfl))
        try simp only [Act.put, List.setIfInBounds_toArray, List.set_cons_zero, List.set_cons_succ]
        refine wpAnyH_take (i := 13) (oi := { dst := some 118, op := Op.move (Operand.tmp 18), type := 3, pos := "law.go:73", after := #[{ on := 9, ground := Ground.guard }], guard := some (9, false) }) (v := ?_) rfl (by kernel_rfl) (by kernel_rfl) (by kernel_rfl) (fun _ _ _ h => h) (Or.inl ⟨by rfl, ?_⟩) (by assumption) ?_
        rotate_left 1
        · (intro W hSW; (try dsimp only at hSW); first | (go_simp; done) | (go_simp; with_reducible rfl))
        try simp only [Act.put, List.setIfInBounds_toArray, List.set_cons_zero, List.set_cons_succ]
        refine wpAnyH_take (i := 15) (oi := { dst := some 120, op := Op.move (Operand.tmp 9), type := 3, pos := "law.go:73", after := #[{ on := 9, ground := Ground.guard }], guard := some (9, false) }) (v := ?_) rfl (by kernel_rfl) (by kernel_rfl) (by kernel_rfl) (fun _ _ _ h => h) (Or.inl ⟨by rfl, ?_⟩) (by assumption) ?_
        rotate_left 1
        · (intro W hSW; (try dsimp only at hSW); first | (go_simp; done) | (go_simp; with_reducible rfl))
        try simp only [Act.put, List.setIfInBounds_toArray, List.set_cons_zero, List.set_cons_succ]
        refine wpAnyH_take (i := 16) (oi := { dst := some 121, op := Op.fieldAddr 27 (Operand.tmp 2) 2, type := 0, pos := "law.go:73", after := #[{ on := 9, ground := Ground.guard }], guard := some (9, false) }) (v := ?_) rfl (by kernel_rfl) (by kernel_rfl) (by kernel_rfl) (fun _ _ _ h => h) (Or.inl ⟨by rfl, ?_⟩) (by assumption) ?_
        rotate_left 1
        · (intro W hSW; (try dsimp only at hSW); first | (go_simp; done) | (go_simp; with_reducible rfl))
        try simp only [Act.put, List.setIfInBounds_toArray, List.set_cons_zero, List.set_cons_succ]
        refine wpAnyH_take (i := 17) (oi := { dst := some 122, op := Op.load 23 (Operand.tmp 121), type := 23, pos := "law.go:73", after := #[{ on := 16, ground := Ground.data }, { on := 9, ground := Ground.guard }], guard := some (9, false) }) (v := ?_) rfl (by kernel_rfl) (by kernel_rfl) (by kernel_rfl) (fun _ _ _ h => h) (Or.inl ⟨by rfl, ?_⟩) (by assumption) ?_
        rotate_left 1
        · (intro W hSW; (try dsimp only at hSW); first | (go_simp; done) | (go_simp; with_reducible rfl))
        try simp only [Act.put, List.setIfInBounds_toArray, List.set_cons_zero, List.set_cons_succ]
        refine wpAnyH_take (i := 18) (oi := { dst := some 123, op := Op.call { callee := Callee.builtin Builtin.len, args := #[Operand.tmp 122], argTypes := #[23] }, type := 3, pos := "law.go:73", after := #[{ on := 17, ground := Ground.data }, { on := 9, ground := Ground.guard }], guard := some (9, false) }) (v := ?_) rfl (by kernel_rfl) (by kernel_rfl) (by kernel_rfl) (fun _ _ _ h => h) (Or.inl ⟨by rfl, ?_⟩) (by assumption) ?_
        rotate_left 1
        · (intro W hSW; (try dsimp only at hSW); first | (go_simp; done) | (go_simp; with_reducible rfl))
        try simp only [Act.put, List.setIfInBounds_toArray, List.set_cons_zero, List.set_cons_succ]
        refine wpAnyH_take (i := 19) (oi := { dst := some 124, op := Op.binOp BinOp.geq 3 (Operand.tmp 120) (Operand.tmp 123) 3, type := 4, pos := "law.go:73", after := #[{ on := 15, ground := Ground.data }, { on := 18, ground := Ground.data }, { on := 9, ground := Ground.guard }], guard := some (9, false) }) (v := ?_) rfl (by kernel_rfl) (by kernel_rfl) (by kernel_rfl) (fun _ _ _ h => h) (Or.inl ⟨by rfl, ?_⟩) (by assumption) ?_
        rotate_left 1
        · (intro W hSW; (try dsimp only at hSW); first | (go_simp; done) | (go_simp; with_reducible rfl))
        try simp only [Act.put, List.setIfInBounds_toArray, List.set_cons_zero, List.set_cons_succ]
        refine wpAnyH_ready (rs := [14]) (by kernel_rfl) (by simp) ?_
        refine (AllReadyH.cons (o := { dst := some 119, op := Op.call { callee := Callee.value (Operand.func 18), args := #[Operand.tmp 115, Operand.tmp 117, Operand.tmp 118], argTypes := #[32, 24, 3] }, type := 4, pos := "law.go:73", after := #[{ on := 10, ground := Ground.data }, { on := 12, ground := Ground.data }, { on := 13, ground := Ground.data }, { on := 9, ground := Ground.chain }, { on := 9, ground := Ground.guard }], guard := some (9, false) }) rfl (fun K hK => ?_) AllReadyH.nil)
        rw [if_pos (by rfl)]
        go_simp
        go_at_call 18
        refine (reval_n gQ vals lQ qv HNV.out FQ.out (by have := GXs.out.2.2.2.1.2.1; omega) HV20.out GXs.out.2.2.2.1.1 GXs.out.2.2.2.1.2.2 ((HQ.out.grown hgr1).2.2) (HI.out.v.grown hgr1)).mono ?_
        rintro e wc2 ⟨rfl, gc2⟩
        have hgr2 := World.grownBy.trans hgr1 gc2
        go_wp2_with fail
        refine hK.out _ _ (HS.out _ hgr2) (fun hHeld => ?_)
        clear hK K
        try simp only [Act.put, List.setIfInBounds_toArray, List.set_cons_zero, List.set_cons_succ]
        refine wpAnyH_take (i := 20) (oi := { dst := some 125, op := Op.binOp BinOp.neq 4 (Operand.tmp 119) (Operand.tmp 124) 4, type := 4, pos := "law.go:73", after := #[{ on := 14, ground := Ground.data }, { on := 19, ground := Ground.data }, { on := 9, ground := Ground.guard }], guard := some (9, false) }) (v := ?_) rfl (by kernel_rfl) (by kernel_rfl) (by kernel_rfl) (fun _ _ _ h => h) (Or.inl ⟨by rfl, ?_⟩) (by assumption) ?_
        rotate_left 1
        · (intro W hSW; (try dsimp only at hSW); first | (go_simp; done) | (go_simp; with_reducible rfl))
        try simp only [Act.put, List.setIfInBounds_toArray, List.set_cons_zero, List.set_cons_succ]
        refine wpAnyH_take (i := 21) (oi := { dst := some 126, op := Op.pick (Operand.tmp 114) (Operand.const (Value.bool true)) (Operand.tmp 125), type := 4, pos := "law.go:73", after := #[{ on := 9, ground := Ground.data }, { on := 20, ground := Ground.data }], guard := none }) (v := ?_) rfl (by kernel_rfl) (by kernel_rfl) (by kernel_rfl) (fun _ _ _ h => h) (Or.inl ⟨by rfl, ?_⟩) (by assumption) ?_
        rotate_left 1
        · (intro W hSW; (try dsimp only at hSW); first | (go_simp; done) | (go_simp; with_reducible rfl))
        try simp only [Act.put, List.setIfInBounds_toArray, List.set_cons_zero, List.set_cons_succ]
        refine wpAnyH_take (i := 22) (oi := { dst := some 127, op := Op.move (Operand.tmp 126), type := 4, pos := "law.go:73", after := #[{ on := 21, ground := Ground.data }, { on := 14, ground := Ground.chain }], guard := none }) (v := ?_) rfl (by kernel_rfl) (by kernel_rfl) (by kernel_rfl) (fun _ _ _ h => h) (Or.inl ⟨by rfl, ?_⟩) (by assumption) ?_
        rotate_left 1
        · (intro W hSW; (try dsimp only at hSW); first | (go_simp; done) | (go_simp; with_reducible rfl))
        try simp only [Act.put, List.setIfInBounds_toArray, List.set_cons_zero, List.set_cons_succ]
        refine wpAnyH_take (i := 23) (oi := { dst := some 128, op := Op.move (Operand.tmp 1), type := 3, pos := "law.go:73", after := #[{ on := 22, ground := Ground.guard }], guard := some (22, false) }) (v := ?_) rfl (by kernel_rfl) (by kernel_rfl) (by kernel_rfl) (fun _ _ _ h => h) (Or.inl ⟨by rfl, ?_⟩) (by assumption) ?_
        rotate_left 1
        · (intro W hSW; (try dsimp only at hSW); first | (go_simp; done) | (go_simp; with_reducible rfl))
        try simp only [Act.put, List.setIfInBounds_toArray, List.set_cons_zero, List.set_cons_succ]
        refine wpAnyH_take (i := 24) (oi := { dst := some 129, op := Op.binOp BinOp.leq 3 (Operand.tmp 128) (Operand.const (Value.int IntKind.i64 0)) 3, type := 4, pos := "law.go:73", after := #[{ on := 23, ground := Ground.data }, { on := 22, ground := Ground.guard }], guard := some (22, false) }) (v := ?_) rfl (by kernel_rfl) (by kernel_rfl) (by kernel_rfl) (fun _ _ _ h => h) (Or.inl ⟨by rfl, ?_⟩) (by assumption) ?_
        rotate_left 1
        · (intro W hSW; (try dsimp only at hSW); first | (go_simp; done) | (go_simp; with_reducible rfl))
        try simp only [Act.put, List.setIfInBounds_toArray, List.set_cons_zero, List.set_cons_succ]
        refine wpAnyH_take (i := 25) (oi := { dst := some 130, op := Op.move (Operand.tmp 129), type := 4, pos := "law.go:73", after := #[{ on := 24, ground := Ground.data }, { on := 22, ground := Ground.chain }, { on := 22, ground := Ground.guard }], guard := some (22, false) }) (v := ?_) rfl (by kernel_rfl) (by kernel_rfl) (by kernel_rfl) (fun _ _ _ h => h) (Or.inl ⟨by rfl, ?_⟩) (by assumption) ?_
        rotate_left 1
        · (intro W hSW; (try dsimp only at hSW); first | (go_simp; done) | (go_simp; with_reducible rfl))
        try simp only [Act.put, List.setIfInBounds_toArray, List.set_cons_zero, List.set_cons_succ]
        refine wpAnyH_take (i := 26) (oi := { dst := some 131, op := Op.move (Operand.tmp 16), type := 3, pos := "law.go:73", after := #[{ on := 25, ground := Ground.guard }], guard := some (25, true) }) (v := ?_) rfl (by kernel_rfl) (by kernel_rfl) (by kernel_rfl) (fun _ _ _ h => h) (Or.inl ⟨by rfl, ?_⟩) (by assumption) ?_
        rotate_left 1
        · (intro W hSW; (try dsimp only at hSW); first | (go_simp; done) | (go_simp; with_reducible rfl))
        try simp only [Act.put, List.setIfInBounds_toArray, List.set_cons_zero, List.set_cons_succ]
        refine wpAnyH_take (i := 27) (oi := { dst := some 132, op := Op.binOp BinOp.neq 3 (Operand.tmp 131) (Operand.const (Value.int IntKind.i64 0)) 3, type := 4, pos := "law.go:73", after := #[{ on := 26, ground := Ground.data }, { on := 25, ground := Ground.guard }], guard := some (25, true) }) (v := ?_) rfl (by kernel_rfl) (by kernel_rfl) (by kernel_rfl) (fun _ _ _ h => h) (Or.inl ⟨by rfl, ?_⟩) (by assumption) ?_
        rotate_left 1
        · (intro W hSW; (try dsimp only at hSW); first | (go_simp; done) | (go_simp; with_reducible rfl))
        try simp only [Act.put, List.setIfInBounds_toArray, List.set_cons_zero, List.set_cons_succ]
        refine wpAnyH_take (i := 28) (oi := { dst := some 133, op := Op.pick (Operand.tmp 130) (Operand.tmp 132) (Operand.const (Value.bool false)), type := 4, pos := "law.go:73", after := #[{ on := 25, ground := Ground.data }, { on := 27, ground := Ground.data }, { on := 22, ground := Ground.guard }], guard := some (22, false) }) (v := ?_) rfl (by kernel_rfl) (by kernel_rfl) (by kernel_rfl) (fun _ _ _ h => h) (Or.inl ⟨by rfl, ?_⟩) (by assumption) ?_
        rotate_left 1
        · (intro W hSW; (try dsimp only at hSW); first | (go_simp; done) | (go_simp; with_reducible rfl))
        try simp only [Act.put, List.setIfInBounds_toArray, List.set_cons_zero, List.set_cons_succ]
        refine wpAnyH_take (i := 29) (oi := { dst := some 134, op := Op.pick (Operand.tmp 127) (Operand.const (Value.bool true)) (Operand.tmp 133), type := 4, pos := "law.go:73", after := #[{ on := 22, ground := Ground.data }, { on := 28, ground := Ground.data }], guard := none }) (v := ?_) rfl (by kernel_rfl) (by kernel_rfl) (by kernel_rfl) (fun _ _ _ h => h) (Or.inl ⟨by rfl, ?_⟩) (by assumption) ?_
        rotate_left 1
        · (intro W hSW; (try dsimp only at hSW); first | (go_simp; done) | (go_simp; with_reducible rfl))
        try simp only [Act.put, List.setIfInBounds_toArray, List.set_cons_zero, List.set_cons_succ]
        refine wpAnyH_take (i := 30) (oi := { dst := some 135, op := Op.move (Operand.tmp 134), type := 4, pos := "law.go:73", after := #[{ on := 29, ground := Ground.data }, { on := 25, ground := Ground.chain }], guard := none }) (v := ?_) rfl (by kernel_rfl) (by kernel_rfl) (by kernel_rfl) (fun _ _ _ h => h) (Or.inl ⟨by rfl, ?_⟩) (by assumption) ?_
        rotate_left 1
        · (intro W hSW; (try dsimp only at hSW); first | (go_simp; done) | (go_simp; with_reducible rfl))
        try simp only [Act.put, List.setIfInBounds_toArray, List.set_cons_zero, List.set_cons_succ]
        refine wpAnyH_take (i := 31) (oi := { dst := some 136, op := Op.move (Operand.tmp 1), type := 3, pos := "law.go:73", after := #[{ on := 30, ground := Ground.guard }], guard := some (30, false) }) (v := ?_) rfl (by kernel_rfl) (by kernel_rfl) (by kernel_rfl) (fun _ _ _ h => h) (Or.inl ⟨by rfl, ?_⟩) (by assumption) ?_
        rotate_left 1
        · (intro W hSW; (try dsimp only at hSW); first | (go_simp; done) | (go_simp; with_reducible rfl))
        try simp only [Act.put, List.setIfInBounds_toArray, List.set_cons_zero, List.set_cons_succ]
        refine wpAnyH_take (i := 32) (oi := { dst := some 137, op := Op.move (Operand.tmp 7), type := 33, pos := "law.go:73", after := #[{ on := 30, ground := Ground.guard }], guard := some (30, false) }) (v := ?_) rfl (by kernel_rfl) (by kernel_rfl) (by kernel_rfl) (fun _ _ _ h => h) (Or.inl ⟨by rfl, ?_⟩) (by assumption) ?_
        rotate_left 1
        · (intro W hSW; (try dsimp only at hSW); first | (go_simp; done) | (go_simp; with_reducible rfl))
        try simp only [Act.put, List.setIfInBounds_toArray, List.set_cons_zero, List.set_cons_succ]
        refine wpAnyH_take (i := 33) (oi := { dst := some 138, op := Op.call { callee := Callee.builtin Builtin.len, args := #[Operand.tmp 137], argTypes := #[33] }, type := 3, pos := "law.go:73", after := #[{ on := 32, ground := Ground.data }, { on := 30, ground := Ground.guard }], guard := some (30, false) }) (v := ?_) rfl (by kernel_rfl) (by kernel_rfl) (by kernel_rfl) (fun _ _ _ h => h) (Or.inl ⟨by rfl, ?_⟩) (by assumption) ?_
        rotate_left 1
        · (intro W hSW; (try dsimp only at hSW); first | (go_simp; done) | (go_simp; with_reducible rfl))
        try simp only [Act.put, List.setIfInBounds_toArray, List.set_cons_zero, List.set_cons_succ]
        refine wpAnyH_take (i := 34) (oi := { dst := some 139, op := Op.binOp BinOp.gtr 3 (Operand.tmp 136) (Operand.tmp 138) 3, type := 4, pos := "law.go:73", after := #[{ on := 31, ground := Ground.data }, { on := 33, ground := Ground.data }, { on := 30, ground := Ground.guard }], guard := some (30, false) }) (v := ?_) rfl (by kernel_rfl) (by kernel_rfl) (by kernel_rfl) (fun _ _ _ h => h) (Or.inl ⟨by rfl, ?_⟩) (by assumption) ?_
        rotate_left 1
        · (intro W hSW; (try dsimp only at hSW); first | (go_simp; done) | (go_simp; with_reducible rfl))
        try simp only [Act.put, List.setIfInBounds_toArray, List.set_cons_zero, List.set_cons_succ]
        refine wpAnyH_take (i := 35) (oi := { dst := some 140, op := Op.move (Operand.tmp 139), type := 4, pos := "law.go:73", after := #[{ on := 34, ground := Ground.data }, { on := 30, ground := Ground.chain }, { on := 30, ground := Ground.guard }], guard := some (30, false) }) (v := ?_) rfl (by kernel_rfl) (by kernel_rfl) (by kernel_rfl) (fun _ _ _ h => h) (Or.inl ⟨by rfl, ?_⟩) (by assumption) ?_
        rotate_left 1
        · (intro W hSW; (try dsimp only at hSW); first | (go_simp; done) | (go_simp; with_reducible rfl))
        try simp only [Act.put, List.setIfInBounds_toArray, List.set_cons_zero, List.set_cons_succ]
        refine wpAnyH_take (i := 36) (oi := { dst := some 141, op := Op.move (Operand.tmp 16), type := 3, pos := "law.go:73", after := #[{ on := 35, ground := Ground.guard }], guard := some (35, true) }) (v := undef) rfl (by kernel_rfl) (by kernel_rfl) (by kernel_rfl) (fun _ _ _ h => h) (Or.inr ⟨by rfl, rfl⟩) (by assumption) ?_
        try simp only [Act.put, List.setIfInBounds_toArray, List.set_cons_zero, List.set_cons_succ]
        refine wpAnyH_take (i := 37) (oi := { dst := some 142, op := Op.binOp BinOp.neq 3 (Operand.tmp 141) (Operand.const (Value.int IntKind.i64 1)) 3, type := 4, pos := "law.go:73", after := #[{ on := 36, ground := Ground.data }, { on := 35, ground := Ground.guard }], guard := some (35, true) }) (v := undef) rfl (by kernel_rfl) (by kernel_rfl) (by kernel_rfl) (fun _ _ _ h => h) (Or.inr ⟨by rfl, rfl⟩) (by assumption) ?_
        try simp only [Act.put, List.setIfInBounds_toArray, List.set_cons_zero, List.set_cons_succ]
        refine wpAnyH_take (i := 38) (oi := { dst := some 143, op := Op.pick (Operand.tmp 140) (Operand.tmp 142) (Operand.const (Value.bool false)), type := 4, pos := "law.go:73", after := #[{ on := 35, ground := Ground.data }, { on := 37, ground := Ground.data }, { on := 30, ground := Ground.guard }], guard := some (30, false) }) (v := ?_) rfl (by kernel_rfl) (by kernel_rfl) (by kernel_rfl) (fun _ _ _ h => h) (Or.inl ⟨by rfl, ?_⟩) (by assumption) ?_
        rotate_left 1
        · (intro W hSW; (try dsimp only at hSW); first | (go_simp; done) | (go_simp; with_reducible rfl))
        try simp only [Act.put, List.setIfInBounds_toArray, List.set_cons_zero, List.set_cons_succ]
        refine wpAnyH_take (i := 39) (oi := { dst := some 144, op := Op.pick (Operand.tmp 135) (Operand.const (Value.bool true)) (Operand.tmp 143), type := 4, pos := "law.go:73", after := #[{ on := 30, ground := Ground.data }, { on := 38, ground := Ground.data }], guard := none }) (v := ?_) rfl (by kernel_rfl) (by kernel_rfl) (by kernel_rfl) (fun _ _ _ h => h) (Or.inl ⟨by rfl, ?_⟩) (by assumption) ?_
        rotate_left 1
        · (intro W hSW; (try dsimp only at hSW); first | (go_simp; done) | (go_simp; with_reducible rfl))
        try simp only [Act.put, List.setIfInBounds_toArray, List.set_cons_zero, List.set_cons_succ]
        refine wpAnyH_done (by kernel_rfl) ?_ _
        have hEND := hgr2
        clear hHeld
        go_wp2_with fail
        go_meet
        exact ⟨rfl, hEND⟩
      · have f1 : decide (kk ≤ 0) = false := decide_eq_false h1
        have f2 : decide ((na : Int) < kk) = true := decide_eq_true h2
        subst h3
        clear h1 h2
        have HS := Lib.hid (fun (Wh : World) (hWh : V16.grownBy Wh none) => (⟨hWh, hWh.cell HP.out.1 (by simp), hWh.cell HQ.out.1 (by simp), hWh.cell HX.out.c3 (by simp), hWh.cell HX.out.c2 (by simp)⟩ : (fun Wh : World => V16.grownBy Wh none ∧ Wh.cell? ⟨bP, 0, none⟩ = some (.slice a13 gP.length c13) ∧ Wh.cell? ⟨bQ, 0, none⟩ = some (.slice a15 gQ.length c15) ∧ Wh.cell? ⟨bX, 3, none⟩ = some (.slice va nv vc) ∧ Wh.cell? ⟨bX, 2, none⟩ = some (.slice ba nb bcc)) Wh))
        have hdr : V16.grownBy V16.drew none := ⟨rfl, rfl, rfl, Nat.le_refl _, fun _ _ _ => rfl⟩
        refine wp_region_held_drew (S := (fun Wh : World => V16.grownBy Wh none ∧ Wh.cell? ⟨bP, 0, none⟩ = some (.slice a13 gP.length c13) ∧ Wh.cell? ⟨bQ, 0, none⟩ = some (.slice a15 gQ.length c15) ∧ Wh.cell? ⟨bX, 3, none⟩ = some (.slice va nv vc) ∧ Wh.cell? ⟨bX, 2, none⟩ = some (.slice ba nb bcc))) (by kernel_rfl) (HS.out _ hdr) (fun hHeld => ?_)
        refine wpAnyH_take (i := 0) (oi := { dst := some 105, op := Op.load 32 (Operand.tmp 15), type := 32, pos := "law.go:73", after := #[], guard := none }) (v := ?_) rfl (by kernel_rfl) (by kernel_rfl) (by kernel_rfl) (fun _ _ _ h => h) (Or.inl ⟨by rfl, ?_⟩) (by assumption) ?_
        rotate_left 1
        · (intro W hSW; (try dsimp only at hSW); first | (go_simp; done) | (go_simp; with_reducible rfl))
        try simp only [Act.put, List.setIfInBounds_toArray, List.set_cons_zero, List.set_cons_succ]
        refine wpAnyH_take (i := 1) (oi := { dst := some 106, op := Op.fieldAddr 27 (Operand.tmp 2) 3, type := 0, pos := "law.go:73", after := #[], guard := none }) (v := ?_) rfl (by kernel_rfl) (by kernel_rfl) (by kernel_rfl) (fun _ _ _ h => h) (Or.inl ⟨by rfl, ?_⟩) (by assumption) ?_
        rotate_left 1
        · (intro W hSW; (try dsimp only at hSW); first | (go_simp; done) | (go_simp; with_reducible rfl))
        try simp only [Act.put, List.setIfInBounds_toArray, List.set_cons_zero, List.set_cons_succ]
        refine wpAnyH_take (i := 2) (oi := { dst := some 107, op := Op.load 24 (Operand.tmp 106), type := 24, pos := "law.go:73", after := #[{ on := 1, ground := Ground.data }], guard := none }) (v := ?_) rfl (by kernel_rfl) (by kernel_rfl) (by kernel_rfl) (fun _ _ _ h => h) (Or.inl ⟨by rfl, ?_⟩) (by assumption) ?_
        rotate_left 1
        · (intro W hSW; (try dsimp only at hSW); first | (go_simp; done) | (go_simp; with_reducible rfl))
        try simp only [Act.put, List.setIfInBounds_toArray, List.set_cons_zero, List.set_cons_succ]
        refine wpAnyH_take (i := 3) (oi := { dst := some 108, op := Op.move (Operand.tmp 16), type := 3, pos := "law.go:73", after := #[], guard := none }) (v := ?_) rfl (by kernel_rfl) (by kernel_rfl) (by kernel_rfl) (fun _ _ _ h => h) (Or.inl ⟨by rfl, ?_⟩) (by assumption) ?_
        rotate_left 1
        · (intro W hSW; (try dsimp only at hSW); first | (go_simp; done) | (go_simp; with_reducible rfl))
        try simp only [Act.put, List.setIfInBounds_toArray, List.set_cons_zero, List.set_cons_succ]
        refine wpAnyH_take (i := 5) (oi := { dst := some 110, op := Op.move (Operand.tmp 9), type := 3, pos := "law.go:73", after := #[], guard := none }) (v := ?_) rfl (by kernel_rfl) (by kernel_rfl) (by kernel_rfl) (fun _ _ _ h => h) (Or.inl ⟨by rfl, ?_⟩) (by assumption) ?_
        rotate_left 1
        · (intro W hSW; (try dsimp only at hSW); first | (go_simp; done) | (go_simp; with_reducible rfl))
        try simp only [Act.put, List.setIfInBounds_toArray, List.set_cons_zero, List.set_cons_succ]
        refine wpAnyH_take (i := 6) (oi := { dst := some 111, op := Op.move (Operand.tmp 1), type := 3, pos := "law.go:73", after := #[], guard := none }) (v := ?_) rfl (by kernel_rfl) (by kernel_rfl) (by kernel_rfl) (fun _ _ _ h => h) (Or.inl ⟨by rfl, ?_⟩) (by assumption) ?_
        rotate_left 1
        · (intro W hSW; (try dsimp only at hSW); first | (go_simp; done) | (go_simp; with_reducible rfl))
        try simp only [Act.put, List.setIfInBounds_toArray, List.set_cons_zero, List.set_cons_succ]
        refine wpAnyH_take (i := 7) (oi := { dst := some 112, op := Op.binOp BinOp.geq 3 (Operand.tmp 110) (Operand.tmp 111) 3, type := 4, pos := "law.go:73", after := #[{ on := 5, ground := Ground.data }, { on := 6, ground := Ground.data }], guard := none }) (v := ?_) rfl (by kernel_rfl) (by kernel_rfl) (by kernel_rfl) (fun _ _ _ h => h) (Or.inl ⟨by rfl, ?_⟩) (by assumption) ?_
        rotate_left 1
        · (intro W hSW; (try dsimp only at hSW); first | (go_simp; done) | (go_simp; with_reducible rfl))
        try simp only [Act.put, List.setIfInBounds_toArray, List.set_cons_zero, List.set_cons_succ]
        refine wpAnyH_ready (rs := [4]) (by kernel_rfl) (by simp) ?_
        refine (AllReadyH.cons (o := { dst := some 109, op := Op.call { callee := Callee.value (Operand.func 18), args := #[Operand.tmp 105, Operand.tmp 107, Operand.tmp 108], argTypes := #[32, 24, 3] }, type := 4, pos := "law.go:73", after := #[{ on := 0, ground := Ground.data }, { on := 2, ground := Ground.data }, { on := 3, ground := Ground.data }], guard := none }) rfl (fun K hK => ?_) AllReadyH.nil)
        rw [if_pos (by rfl)]
        go_simp
        go_at_call 18
        refine (reval_n gP vals 1 pv HNV.out FP.out (by have := GXs.out.2.2.1.2.1; omega) HV20.out GXs.out.2.2.1.1 GXs.out.2.2.1.2.2 ((HP.out.grown hdr).2.2) (HI.out.v.grown hdr)).mono ?_
        rintro e wc1 ⟨rfl, gc1⟩
        have hgr1 := World.grownBy.trans hdr gc1
        go_wp2_with fail
        refine hK.out _ _ (HS.out _ hgr1) (fun hHeld => ?_)
        clear hK K
        try simp only [Act.put, List.setIfInBounds_toArray, List.set_cons_zero, List.set_cons_succ]
        refine wpAnyH_take (i := 8) (oi := { dst := some 113, op := Op.binOp BinOp.neq 4 (Operand.tmp 109) (Operand.tmp 112) 4, type := 4, pos := "law.go:73", after := #[{ on := 4, ground := Ground.data }, { on := 7, ground := Ground.data }], guard := none }) (v := ?_) rfl (by kernel_rfl) (by kernel_rfl) (by kernel_rfl) (fun _ _ _ h => h) (Or.inl ⟨by rfl, ?_⟩) (by assumption) ?_
        rotate_left 1
        · (intro W hSW; (try dsimp only at hSW); first | (go_simp; done) | (go_simp; with_reducible rfl))
        try simp only [Act.put, List.setIfInBounds_toArray, List.set_cons_zero, List.set_cons_succ]
        refine wpAnyH_take (i := 9) (oi := { dst := some 114, op := Op.move (Operand.tmp 113), type := 4, pos := "law.go:73", after := #[{ on := 8, ground := Ground.data }, { on := 4, ground := Ground.chain }], guard := none }) (v := ?_) rfl (by kernel_rfl) (by kernel_rfl) (by kernel_rfl) (fun _ _ _ h => h) (Or.inl ⟨by rfl, ?_⟩) (by assumption) ?_
        rotate_left 1
        · (intro W hSW; (try dsimp only at hSW); first | (go_simp; done) | (go_simp; with_reducible rfl))
        try simp only [Act.put, List.setIfInBounds_toArray, List.set_cons_zero, List.set_cons_succ]
        refine wpAnyH_take (i := 10) (oi := { dst := some 115, op := Op.load 32 (Operand.tmp 17), type := 32, pos := "law.go:73", after := #[{ on := 9, ground := Ground.guard }], guard := some (9, false) }) (v := ?_) rfl (by kernel_rfl) (by kernel_rfl) (by kernel_rfl) (fun _ _ _ h => h) (Or.inl ⟨by rfl, ?_⟩) (by assumption) ?_
        rotate_left 1
        · (intro W hSW; (try dsimp only at hSW); first | (go_simp; done) | (go_simp; with_reducible rfl))
        try simp only [Act.put, List.setIfInBounds_toArray, List.set_cons_zero, List.set_cons_succ]
        refine wpAnyH_take (i := 11) (oi := { dst := some 116, op := Op.fieldAddr 27 (Operand.tmp 2) 3, type := 0, pos := "law.go:73", after := #[{ on := 9, ground := Ground.guard }], guard := some (9, false) }) (v := ?_) rfl (by kernel_rfl) (by kernel_rfl) (by kernel_rfl) (fun _ _ _ h => h) (Or.inl ⟨by rfl, ?_⟩) (by assumption) ?_
        rotate_left 1
        · (intro W hSW; (try dsimp only at hSW); first | (go_simp; done) | (go_simp; with_reducible rfl))
        try simp only [Act.put, List.setIfInBounds_toArray, List.set_cons_zero, List.set_cons_succ]
        refine wpAnyH_take (i := 12) (oi := { dst := some 117, op := Op.load 24 (Operand.tmp 116), type := 24, pos := "law.go:73", after := #[{ on := 11, ground := Ground.data }, { on := 9, ground := Ground.guard }], guard := some (9, false) }) (v := ?_) rfl (by kernel_rfl) (by kernel_rfl) (by kernel_rfl) (fun _ _ _ h => h) (Or.inl ⟨by rfl, ?_⟩) (by assumption) ?_
        rotate_left 1
        · (intro W hSW; (try dsimp only at hSW); first | (go_simp; done) | (go_simp; with_reducible rfl))
        try simp only [Act.put, List.setIfInBounds_toArray, List.set_cons_zero, List.set_cons_succ]
        refine wpAnyH_take (i := 13) (oi := { dst := some 118, op := Op.move (Operand.tmp 18), type := 3, pos := "law.go:73", after := #[{ on := 9, ground := Ground.guard }], guard := some (9, false) }) (v := ?_) rfl (by kernel_rfl) (by kernel_rfl) (by kernel_rfl) (fun _ _ _ h => h) (Or.inl ⟨by rfl, ?_⟩) (by assumption) ?_
        rotate_left 1
        · (intro W hSW; (try dsimp only at hSW); first | (go_simp; done) | (go_simp; with_reducible rfl))
        try simp only [Act.put, List.setIfInBounds_toArray, List.set_cons_zero, List.set_cons_succ]
        refine wpAnyH_take (i := 15) (oi := { dst := some 120, op := Op.move (Operand.tmp 9), type := 3, pos := "law.go:73", after := #[{ on := 9, ground := Ground.guard }], guard := some (9, false) }) (v := ?_) rfl (by kernel_rfl) (by kernel_rfl) (by kernel_rfl) (fun _ _ _ h => h) (Or.inl ⟨by rfl, ?_⟩) (by assumption) ?_
        rotate_left 1
        · (intro W hSW; (try dsimp only at hSW); first | (go_simp; done) | (go_simp; with_reducible rfl))
        try simp only [Act.put, List.setIfInBounds_toArray, List.set_cons_zero, List.set_cons_succ]
        refine wpAnyH_take (i := 16) (oi := { dst := some 121, op := Op.fieldAddr 27 (Operand.tmp 2) 2, type := 0, pos := "law.go:73", after := #[{ on := 9, ground := Ground.guard }], guard := some (9, false) }) (v := ?_) rfl (by kernel_rfl) (by kernel_rfl) (by kernel_rfl) (fun _ _ _ h => h) (Or.inl ⟨by rfl, ?_⟩) (by assumption) ?_
        rotate_left 1
        · (intro W hSW; (try dsimp only at hSW); first | (go_simp; done) | (go_simp; with_reducible rfl))
        try simp only [Act.put, List.setIfInBounds_toArray, List.set_cons_zero, List.set_cons_succ]
        refine wpAnyH_take (i := 17) (oi := { dst := some 122, op := Op.load 23 (Operand.tmp 121), type := 23, pos := "law.go:73", after := #[{ on := 16, ground := Ground.data }, { on := 9, ground := Ground.guard }], guard := some (9, false) }) (v := ?_) rfl (by kernel_rfl) (by kernel_rfl) (by kernel_rfl) (fun _ _ _ h => h) (Or.inl ⟨by rfl, ?_⟩) (by assumption) ?_
        rotate_left 1
        · (intro W hSW; (try dsimp only at hSW); first | (go_simp; done) | (go_simp; with_reducible rfl))
        try simp only [Act.put, List.setIfInBounds_toArray, List.set_cons_zero, List.set_cons_succ]
        refine wpAnyH_take (i := 18) (oi := { dst := some 123, op := Op.call { callee := Callee.builtin Builtin.len, args := #[Operand.tmp 122], argTypes := #[23] }, type := 3, pos := "law.go:73", after := #[{ on := 17, ground := Ground.data }, { on := 9, ground := Ground.guard }], guard := some (9, false) }) (v := ?_) rfl (by kernel_rfl) (by kernel_rfl) (by kernel_rfl) (fun _ _ _ h => h) (Or.inl ⟨by rfl, ?_⟩) (by assumption) ?_
        rotate_left 1
        · (intro W hSW; (try dsimp only at hSW); first | (go_simp; done) | (go_simp; with_reducible rfl))
        try simp only [Act.put, List.setIfInBounds_toArray, List.set_cons_zero, List.set_cons_succ]
        refine wpAnyH_take (i := 19) (oi := { dst := some 124, op := Op.binOp BinOp.geq 3 (Operand.tmp 120) (Operand.tmp 123) 3, type := 4, pos := "law.go:73", after := #[{ on := 15, ground := Ground.data }, { on := 18, ground := Ground.data }, { on := 9, ground := Ground.guard }], guard := some (9, false) }) (v := ?_) rfl (by kernel_rfl) (by kernel_rfl) (by kernel_rfl) (fun _ _ _ h => h) (Or.inl ⟨by rfl, ?_⟩) (by assumption) ?_
        rotate_left 1
        · (intro W hSW; (try dsimp only at hSW); first | (go_simp; done) | (go_simp; with_reducible rfl))
        try simp only [Act.put, List.setIfInBounds_toArray, List.set_cons_zero, List.set_cons_succ]
        refine wpAnyH_ready (rs := [14]) (by kernel_rfl) (by simp) ?_
        refine (AllReadyH.cons (o := { dst := some 119, op := Op.call { callee := Callee.value (Operand.func 18), args := #[Operand.tmp 115, Operand.tmp 117, Operand.tmp 118], argTypes := #[32, 24, 3] }, type := 4, pos := "law.go:73", after := #[{ on := 10, ground := Ground.data }, { on := 12, ground := Ground.data }, { on := 13, ground := Ground.data }, { on := 9, ground := Ground.chain }, { on := 9, ground := Ground.guard }], guard := some (9, false) }) rfl (fun K hK => ?_) AllReadyH.nil)
        rw [if_pos (by rfl)]
        go_simp
        go_at_call 18
        refine (reval_n gQ vals lQ qv HNV.out FQ.out (by have := GXs.out.2.2.2.1.2.1; omega) HV20.out GXs.out.2.2.2.1.1 GXs.out.2.2.2.1.2.2 ((HQ.out.grown hgr1).2.2) (HI.out.v.grown hgr1)).mono ?_
        rintro e wc2 ⟨rfl, gc2⟩
        have hgr2 := World.grownBy.trans hgr1 gc2
        go_wp2_with fail
        refine hK.out _ _ (HS.out _ hgr2) (fun hHeld => ?_)
        clear hK K
        try simp only [Act.put, List.setIfInBounds_toArray, List.set_cons_zero, List.set_cons_succ]
        refine wpAnyH_take (i := 20) (oi := { dst := some 125, op := Op.binOp BinOp.neq 4 (Operand.tmp 119) (Operand.tmp 124) 4, type := 4, pos := "law.go:73", after := #[{ on := 14, ground := Ground.data }, { on := 19, ground := Ground.data }, { on := 9, ground := Ground.guard }], guard := some (9, false) }) (v := ?_) rfl (by kernel_rfl) (by kernel_rfl) (by kernel_rfl) (fun _ _ _ h => h) (Or.inl ⟨by rfl, ?_⟩) (by assumption) ?_
        rotate_left 1
        · (intro W hSW; (try dsimp only at hSW); first | (go_simp; done) | (go_simp; with_reducible rfl))
        try simp only [Act.put, List.setIfInBounds_toArray, List.set_cons_zero, List.set_cons_succ]
        refine wpAnyH_take (i := 21) (oi := { dst := some 126, op := Op.pick (Operand.tmp 114) (Operand.const (Value.bool true)) (Operand.tmp 125), type := 4, pos := "law.go:73", after := #[{ on := 9, ground := Ground.data }, { on := 20, ground := Ground.data }], guard := none }) (v := ?_) rfl (by kernel_rfl) (by kernel_rfl) (by kernel_rfl) (fun _ _ _ h => h) (Or.inl ⟨by rfl, ?_⟩) (by assumption) ?_
        rotate_left 1
        · (intro W hSW; (try dsimp only at hSW); first | (go_simp; done) | (go_simp; with_reducible rfl))
        try simp only [Act.put, List.setIfInBounds_toArray, List.set_cons_zero, List.set_cons_succ]
        refine wpAnyH_take (i := 22) (oi := { dst := some 127, op := Op.move (Operand.tmp 126), type := 4, pos := "law.go:73", after := #[{ on := 21, ground := Ground.data }, { on := 14, ground := Ground.chain }], guard := none }) (v := ?_) rfl (by kernel_rfl) (by kernel_rfl) (by kernel_rfl) (fun _ _ _ h => h) (Or.inl ⟨by rfl, ?_⟩) (by assumption) ?_
        rotate_left 1
        · (intro W hSW; (try dsimp only at hSW); first | (go_simp; done) | (go_simp; with_reducible rfl))
        try simp only [Act.put, List.setIfInBounds_toArray, List.set_cons_zero, List.set_cons_succ]
        refine wpAnyH_take (i := 23) (oi := { dst := some 128, op := Op.move (Operand.tmp 1), type := 3, pos := "law.go:73", after := #[{ on := 22, ground := Ground.guard }], guard := some (22, false) }) (v := ?_) rfl (by kernel_rfl) (by kernel_rfl) (by kernel_rfl) (fun _ _ _ h => h) (Or.inl ⟨by rfl, ?_⟩) (by assumption) ?_
        rotate_left 1
        · (intro W hSW; (try dsimp only at hSW); first | (go_simp; done) | (go_simp; with_reducible rfl))
        try simp only [Act.put, List.setIfInBounds_toArray, List.set_cons_zero, List.set_cons_succ]
        refine wpAnyH_take (i := 24) (oi := { dst := some 129, op := Op.binOp BinOp.leq 3 (Operand.tmp 128) (Operand.const (Value.int IntKind.i64 0)) 3, type := 4, pos := "law.go:73", after := #[{ on := 23, ground := Ground.data }, { on := 22, ground := Ground.guard }], guard := some (22, false) }) (v := ?_) rfl (by kernel_rfl) (by kernel_rfl) (by kernel_rfl) (fun _ _ _ h => h) (Or.inl ⟨by rfl, ?_⟩) (by assumption) ?_
        rotate_left 1
        · (intro W hSW; (try dsimp only at hSW); first | (go_simp; done) | (go_simp; with_reducible rfl))
        try simp only [Act.put, List.setIfInBounds_toArray, List.set_cons_zero, List.set_cons_succ]
        refine wpAnyH_take (i := 25) (oi := { dst := some 130, op := Op.move (Operand.tmp 129), type := 4, pos := "law.go:73", after := #[{ on := 24, ground := Ground.data }, { on := 22, ground := Ground.chain }, { on := 22, ground := Ground.guard }], guard := some (22, false) }) (v := ?_) rfl (by kernel_rfl) (by kernel_rfl) (by kernel_rfl) (fun _ _ _ h => h) (Or.inl ⟨by rfl, ?_⟩) (by assumption) ?_
        rotate_left 1
        · (intro W hSW; (try dsimp only at hSW); first | (go_simp; done) | (go_simp; with_reducible rfl))
        try simp only [Act.put, List.setIfInBounds_toArray, List.set_cons_zero, List.set_cons_succ]
        refine wpAnyH_take (i := 26) (oi := { dst := some 131, op := Op.move (Operand.tmp 16), type := 3, pos := "law.go:73", after := #[{ on := 25, ground := Ground.guard }], guard := some (25, true) }) (v := undef) rfl (by kernel_rfl) (by kernel_rfl) (by kernel_rfl) (fun _ _ _ h => h) (Or.inr ⟨by rfl, rfl⟩) (by assumption) ?_
        try simp only [Act.put, List.setIfInBounds_toArray, List.set_cons_zero, List.set_cons_succ]
        refine wpAnyH_take (i := 27) (oi := { dst := some 132, op := Op.binOp BinOp.neq 3 (Operand.tmp 131) (Operand.const (Value.int IntKind.i64 0)) 3, type := 4, pos := "law.go:73", after := #[{ on := 26, ground := Ground.data }, { on := 25, ground := Ground.guard }], guard := some (25, true) }) (v := undef) rfl (by kernel_rfl) (by kernel_rfl) (by kernel_rfl) (fun _ _ _ h => h) (Or.inr ⟨by rfl, rfl⟩) (by assumption) ?_
        try simp only [Act.put, List.setIfInBounds_toArray, List.set_cons_zero, List.set_cons_succ]
        refine wpAnyH_take (i := 28) (oi := { dst := some 133, op := Op.pick (Operand.tmp 130) (Operand.tmp 132) (Operand.const (Value.bool false)), type := 4, pos := "law.go:73", after := #[{ on := 25, ground := Ground.data }, { on := 27, ground := Ground.data }, { on := 22, ground := Ground.guard }], guard := some (22, false) }) (v := ?_) rfl (by kernel_rfl) (by kernel_rfl) (by kernel_rfl) (fun _ _ _ h => h) (Or.inl ⟨by rfl, ?_⟩) (by assumption) ?_
        rotate_left 1
        · (intro W hSW; (try dsimp only at hSW); first | (go_simp; done) | (go_simp; with_reducible rfl))
        try simp only [Act.put, List.setIfInBounds_toArray, List.set_cons_zero, List.set_cons_succ]
        refine wpAnyH_take (i := 29) (oi := { dst := some 134, op := Op.pick (Operand.tmp 127) (Operand.const (Value.bool true)) (Operand.tmp 133), type := 4, pos := "law.go:73", after := #[{ on := 22, ground := Ground.data }, { on := 28, ground := Ground.data }], guard := none }) (v := ?_) rfl (by kernel_rfl) (by kernel_rfl) (by kernel_rfl) (fun _ _ _ h => h) (Or.inl ⟨by rfl, ?_⟩) (by assumption) ?_
        rotate_left 1
        · (intro W hSW; (try dsimp only at hSW); first | (go_simp; done) | (go_simp; with_reducible rfl))
        try simp only [Act.put, List.setIfInBounds_toArray, List.set_cons_zero, List.set_cons_succ]
        refine wpAnyH_take (i := 30) (oi := { dst := some 135, op := Op.move (Operand.tmp 134), type := 4, pos := "law.go:73", after := #[{ on := 29, ground := Ground.data }, { on := 25, ground := Ground.chain }], guard := none }) (v := ?_) rfl (by kernel_rfl) (by kernel_rfl) (by kernel_rfl) (fun _ _ _ h => h) (Or.inl ⟨by rfl, ?_⟩) (by assumption) ?_
        rotate_left 1
        · (intro W hSW; (try dsimp only at hSW); first | (go_simp; done) | (go_simp; with_reducible rfl))
        try simp only [Act.put, List.setIfInBounds_toArray, List.set_cons_zero, List.set_cons_succ]
        refine wpAnyH_take (i := 31) (oi := { dst := some 136, op := Op.move (Operand.tmp 1), type := 3, pos := "law.go:73", after := #[{ on := 30, ground := Ground.guard }], guard := some (30, false) }) (v := ?_) rfl (by kernel_rfl) (by kernel_rfl) (by kernel_rfl) (fun _ _ _ h => h) (Or.inl ⟨by rfl, ?_⟩) (by assumption) ?_
        rotate_left 1
        · (intro W hSW; (try dsimp only at hSW); first | (go_simp; done) | (go_simp; with_reducible rfl))
        try simp only [Act.put, List.setIfInBounds_toArray, List.set_cons_zero, List.set_cons_succ]
        refine wpAnyH_take (i := 32) (oi := { dst := some 137, op := Op.move (Operand.tmp 7), type := 33, pos := "law.go:73", after := #[{ on := 30, ground := Ground.guard }], guard := some (30, false) }) (v := ?_) rfl (by kernel_rfl) (by kernel_rfl) (by kernel_rfl) (fun _ _ _ h => h) (Or.inl ⟨by rfl, ?_⟩) (by assumption) ?_
        rotate_left 1
        · (intro W hSW; (try dsimp only at hSW); first | (go_simp; done) | (go_simp; with_reducible rfl))
        try simp only [Act.put, List.setIfInBounds_toArray, List.set_cons_zero, List.set_cons_succ]
        refine wpAnyH_take (i := 33) (oi := { dst := some 138, op := Op.call { callee := Callee.builtin Builtin.len, args := #[Operand.tmp 137], argTypes := #[33] }, type := 3, pos := "law.go:73", after := #[{ on := 32, ground := Ground.data }, { on := 30, ground := Ground.guard }], guard := some (30, false) }) (v := ?_) rfl (by kernel_rfl) (by kernel_rfl) (by kernel_rfl) (fun _ _ _ h => h) (Or.inl ⟨by rfl, ?_⟩) (by assumption) ?_
        rotate_left 1
        · (intro W hSW; (try dsimp only at hSW); first | (go_simp; done) | (go_simp; with_reducible rfl))
        try simp only [Act.put, List.setIfInBounds_toArray, List.set_cons_zero, List.set_cons_succ]
        refine wpAnyH_take (i := 34) (oi := { dst := some 139, op := Op.binOp BinOp.gtr 3 (Operand.tmp 136) (Operand.tmp 138) 3, type := 4, pos := "law.go:73", after := #[{ on := 31, ground := Ground.data }, { on := 33, ground := Ground.data }, { on := 30, ground := Ground.guard }], guard := some (30, false) }) (v := ?_) rfl (by kernel_rfl) (by kernel_rfl) (by kernel_rfl) (fun _ _ _ h => h) (Or.inl ⟨by rfl, ?_⟩) (by assumption) ?_
        rotate_left 1
        · (intro W hSW; (try dsimp only at hSW); first | (go_simp; done) | (go_simp; with_reducible rfl))
        try simp only [Act.put, List.setIfInBounds_toArray, List.set_cons_zero, List.set_cons_succ]
        refine wpAnyH_take (i := 35) (oi := { dst := some 140, op := Op.move (Operand.tmp 139), type := 4, pos := "law.go:73", after := #[{ on := 34, ground := Ground.data }, { on := 30, ground := Ground.chain }, { on := 30, ground := Ground.guard }], guard := some (30, false) }) (v := ?_) rfl (by kernel_rfl) (by kernel_rfl) (by kernel_rfl) (fun _ _ _ h => h) (Or.inl ⟨by rfl, ?_⟩) (by assumption) ?_
        rotate_left 1
        · (intro W hSW; (try dsimp only at hSW); first | (go_simp; done) | (go_simp; with_reducible rfl))
        try simp only [Act.put, List.setIfInBounds_toArray, List.set_cons_zero, List.set_cons_succ]
        refine wpAnyH_take (i := 36) (oi := { dst := some 141, op := Op.move (Operand.tmp 16), type := 3, pos := "law.go:73", after := #[{ on := 35, ground := Ground.guard }], guard := some (35, true) }) (v := ?_) rfl (by kernel_rfl) (by kernel_rfl) (by kernel_rfl) (fun _ _ _ h => h) (Or.inl ⟨by rfl, ?_⟩) (by assumption) ?_
        rotate_left 1
        · (intro W hSW; (try dsimp only at hSW); first | (go_simp; done) | (go_simp; with_reducible rfl))
        try simp only [Act.put, List.setIfInBounds_toArray, List.set_cons_zero, List.set_cons_succ]
        refine wpAnyH_take (i := 37) (oi := { dst := some 142, op := Op.binOp BinOp.neq 3 (Operand.tmp 141) (Operand.const (Value.int IntKind.i64 1)) 3, type := 4, pos := "law.go:73", after := #[{ on := 36, ground := Ground.data }, { on := 35, ground := Ground.guard }], guard := some (35, true) }) (v := ?_) rfl (by kernel_rfl) (by kernel_rfl) (by kernel_rfl) (fun _ _ _ h => h) (Or.inl ⟨by rfl, ?_⟩) (by assumption) ?_
        rotate_left 1
        · (intro W hSW; (try dsimp only at hSW); first | (go_simp; done) | (go_simp; with_reducible rfl))
        try simp only [Act.put, List.setIfInBounds_toArray, List.set_cons_zero, List.set_cons_succ]
        refine wpAnyH_take (i := 38) (oi := { dst := some 143, op := Op.pick (Operand.tmp 140) (Operand.tmp 142) (Operand.const (Value.bool false)), type := 4, pos := "law.go:73", after := #[{ on := 35, ground := Ground.data }, { on := 37, ground := Ground.data }, { on := 30, ground := Ground.guard }], guard := some (30, false) }) (v := ?_) rfl (by kernel_rfl) (by kernel_rfl) (by kernel_rfl) (fun _ _ _ h => h) (Or.inl ⟨by rfl, ?_⟩) (by assumption) ?_
        rotate_left 1
        · (intro W hSW; (try dsimp only at hSW); first | (go_simp; done) | (go_simp; with_reducible rfl))
        try simp only [Act.put, List.setIfInBounds_toArray, List.set_cons_zero, List.set_cons_succ]
        refine wpAnyH_take (i := 39) (oi := { dst := some 144, op := Op.pick (Operand.tmp 135) (Operand.const (Value.bool true)) (Operand.tmp 143), type := 4, pos := "law.go:73", after := #[{ on := 30, ground := Ground.data }, { on := 38, ground := Ground.data }], guard := none }) (v := ?_) rfl (by kernel_rfl) (by kernel_rfl) (by kernel_rfl) (fun _ _ _ h => h) (Or.inl ⟨by rfl, ?_⟩) (by assumption) ?_
        rotate_left 1
        · (intro W hSW; (try dsimp only at hSW); first | (go_simp; done) | (go_simp; with_reducible rfl))
        try simp only [Act.put, List.setIfInBounds_toArray, List.set_cons_zero, List.set_cons_succ]
        refine wpAnyH_done (by kernel_rfl) ?_ _
        have hEND := hgr2
        clear hHeld
        go_wp2_with fail
        go_meet
        exact ⟨rfl, hEND⟩
      · have f1 : decide (kk ≤ 0) = false := decide_eq_false h1
        have f2 : decide ((na : Int) < kk) = false := decide_eq_false h2
        clear h1 h2
        have HS := Lib.hid (fun (Wh : World) (hWh : V16.grownBy Wh none) => (⟨hWh, hWh.cell HP.out.1 (by simp), hWh.cell HQ.out.1 (by simp), hWh.cell HX.out.c3 (by simp), hWh.cell HX.out.c2 (by simp)⟩ : (fun Wh : World => V16.grownBy Wh none ∧ Wh.cell? ⟨bP, 0, none⟩ = some (.slice a13 gP.length c13) ∧ Wh.cell? ⟨bQ, 0, none⟩ = some (.slice a15 gQ.length c15) ∧ Wh.cell? ⟨bX, 3, none⟩ = some (.slice va nv vc) ∧ Wh.cell? ⟨bX, 2, none⟩ = some (.slice ba nb bcc)) Wh))
        have hdr : V16.grownBy V16.drew none := ⟨rfl, rfl, rfl, Nat.le_refl _, fun _ _ _ => rfl⟩
        refine wp_region_held_drew (S := (fun Wh : World => V16.grownBy Wh none ∧ Wh.cell? ⟨bP, 0, none⟩ = some (.slice a13 gP.length c13) ∧ Wh.cell? ⟨bQ, 0, none⟩ = some (.slice a15 gQ.length c15) ∧ Wh.cell? ⟨bX, 3, none⟩ = some (.slice va nv vc) ∧ Wh.cell? ⟨bX, 2, none⟩ = some (.slice ba nb bcc))) (by kernel_rfl) (HS.out _ hdr) (fun hHeld => ?_)
        refine wpAnyH_take (i := 0) (oi := { dst := some 105, op := Op.load 32 (Operand.tmp 15), type := 32, pos := "law.go:73", after := #[], guard := none }) (v := ?_) rfl (by kernel_rfl) (by kernel_rfl) (by kernel_rfl) (fun _ _ _ h => h) (Or.inl ⟨by rfl, ?_⟩) (by assumption) ?_
        rotate_left 1
        · (intro W hSW; (try dsimp only at hSW); first | (go_simp; done) | (go_simp; with_reducible rfl))
        try simp only [Act.put, List.setIfInBounds_toArray, List.set_cons_zero, List.set_cons_succ]
        refine wpAnyH_take (i := 1) (oi := { dst := some 106, op := Op.fieldAddr 27 (Operand.tmp 2) 3, type := 0, pos := "law.go:73", after := #[], guard := none }) (v := ?_) rfl (by kernel_rfl) (by kernel_rfl) (by kernel_rfl) (fun _ _ _ h => h) (Or.inl ⟨by rfl, ?_⟩) (by assumption) ?_
        rotate_left 1
        · (intro W hSW; (try dsimp only at hSW); first | (go_simp; done) | (go_simp; with_reducible rfl))
        try simp only [Act.put, List.setIfInBounds_toArray, List.set_cons_zero, List.set_cons_succ]
        refine wpAnyH_take (i := 2) (oi := { dst := some 107, op := Op.load 24 (Operand.tmp 106), type := 24, pos := "law.go:73", after := #[{ on := 1, ground := Ground.data }], guard := none }) (v := ?_) rfl (by kernel_rfl) (by kernel_rfl) (by kernel_rfl) (fun _ _ _ h => h) (Or.inl ⟨by rfl, ?_⟩) (by assumption) ?_
        rotate_left 1
        · (intro W hSW; (try dsimp only at hSW); first | (go_simp; done) | (go_simp; with_reducible rfl))
        try simp only [Act.put, List.setIfInBounds_toArray, List.set_cons_zero, List.set_cons_succ]
        refine wpAnyH_take (i := 3) (oi := { dst := some 108, op := Op.move (Operand.tmp 16), type := 3, pos := "law.go:73", after := #[], guard := none }) (v := ?_) rfl (by kernel_rfl) (by kernel_rfl) (by kernel_rfl) (fun _ _ _ h => h) (Or.inl ⟨by rfl, ?_⟩) (by assumption) ?_
        rotate_left 1
        · (intro W hSW; (try dsimp only at hSW); first | (go_simp; done) | (go_simp; with_reducible rfl))
        try simp only [Act.put, List.setIfInBounds_toArray, List.set_cons_zero, List.set_cons_succ]
        refine wpAnyH_take (i := 5) (oi := { dst := some 110, op := Op.move (Operand.tmp 9), type := 3, pos := "law.go:73", after := #[], guard := none }) (v := ?_) rfl (by kernel_rfl) (by kernel_rfl) (by kernel_rfl) (fun _ _ _ h => h) (Or.inl ⟨by rfl, ?_⟩) (by assumption) ?_
        rotate_left 1
        · (intro W hSW; (try dsimp only at hSW); first | (go_simp; done) | (go_simp; with_reducible rfl))
        try simp only [Act.put, List.setIfInBounds_toArray, List.set_cons_zero, List.set_cons_succ]
        refine wpAnyH_take (i := 6) (oi := { dst := some 111, op := Op.move (Operand.tmp 1), type := 3, pos := "law.go:73", after := #[], guard := none }) (v := ?_) rfl (by kernel_rfl) (by kernel_rfl) (by kernel_rfl) (fun _ _ _ h => h) (Or.inl ⟨by rfl, ?_⟩) (by assumption) ?_
        rotate_left 1
        · (intro W hSW; (try dsimp only at hSW); first | (go_simp; done) | (go_simp; with_reducible rfl))
        try simp only [Act.put, List.setIfInBounds_toArray, List.set_cons_zero, List.set_cons_succ]
        refine wpAnyH_take (i := 7) (oi := { dst := some 112, op := Op.binOp BinOp.geq 3 (Operand.tmp 110) (Operand.tmp 111) 3, type := 4, pos := "law.go:73", after := #[{ on := 5, ground := Ground.data }, { on := 6, ground := Ground.data }], guard := none }) (v := ?_) rfl (by kernel_rfl) (by kernel_rfl) (by kernel_rfl) (fun _ _ _ h => h) (Or.inl ⟨by rfl, ?_⟩) (by assumption) ?_
        rotate_left 1
        · (intro W hSW; (try dsimp only at hSW); first | (go_simp; done) | (go_simp; with_reducible rfl))
        try simp only [Act.put, List.setIfInBounds_toArray, List.set_cons_zero, List.set_cons_succ]
        refine wpAnyH_ready (rs := [4]) (by kernel_rfl) (by simp) ?_
        refine (AllReadyH.cons (o := { dst := some 109, op := Op.call { callee := Callee.value (Operand.func 18), args := #[Operand.tmp 105, Operand.tmp 107, Operand.tmp 108], argTypes := #[32, 24, 3] }, type := 4, pos := "law.go:73", after := #[{ on := 0, ground := Ground.data }, { on := 2, ground := Ground.data }, { on := 3, ground := Ground.data }], guard := none }) rfl (fun K hK => ?_) AllReadyH.nil)
        rw [if_pos (by rfl)]
        go_simp
        go_at_call 18
        refine (reval_n gP vals lP pv HNV.out FP.out (by have := GXs.out.2.2.1.2.1; omega) HV20.out GXs.out.2.2.1.1 GXs.out.2.2.1.2.2 ((HP.out.grown hdr).2.2) (HI.out.v.grown hdr)).mono ?_
        rintro e wc1 ⟨rfl, gc1⟩
        have hgr1 := World.grownBy.trans hdr gc1
        go_wp2_with fail
        refine hK.out _ _ (HS.out _ hgr1) (fun hHeld => ?_)
        clear hK K
        try simp only [Act.put, List.setIfInBounds_toArray, List.set_cons_zero, List.set_cons_succ]
        refine wpAnyH_take (i := 8) (oi := { dst := some 113, op := Op.binOp BinOp.neq 4 (Operand.tmp 109) (Operand.tmp 112) 4, type := 4, pos := "law.go:73", after := #[{ on := 4, ground := Ground.data }, { on := 7, ground := Ground.data }], guard := none }) (v := ?_) rfl (by kernel_rfl) (by kernel_rfl) (by kernel_rfl) (fun _ _ _ h => h) (Or.inl ⟨by rfl, ?_⟩) (by assumption) ?_
        rotate_left 1
        · (intro W hSW; (try dsimp only at hSW); first | (go_simp; done) | (go_simp; with_reducible rfl))
        try simp only [Act.put, List.setIfInBounds_toArray, List.set_cons_zero, List.set_cons_succ]
        refine wpAnyH_take (i := 9) (oi := { dst := some 114, op := Op.move (Operand.tmp 113), type := 4, pos := "law.go:73", after := #[{ on := 8, ground := Ground.data }, { on := 4, ground := Ground.chain }], guard := none }) (v := ?_) rfl (by kernel_rfl) (by kernel_rfl) (by kernel_rfl) (fun _ _ _ h => h) (Or.inl ⟨by rfl, ?_⟩) (by assumption) ?_
        rotate_left 1
        · (intro W hSW; (try dsimp only at hSW); first | (go_simp; done) | (go_simp; with_reducible rfl))
        try simp only [Act.put, List.setIfInBounds_toArray, List.set_cons_zero, List.set_cons_succ]
        refine wpAnyH_take (i := 10) (oi := { dst := some 115, op := Op.load 32 (Operand.tmp 17), type := 32, pos := "law.go:73", after := #[{ on := 9, ground := Ground.guard }], guard := some (9, false) }) (v := ?_) rfl (by kernel_rfl) (by kernel_rfl) (by kernel_rfl) (fun _ _ _ h => h) (Or.inl ⟨by rfl, ?_⟩) (by assumption) ?_
        rotate_left 1
        · (intro W hSW; (try dsimp only at hSW); first | (go_simp; done) | (go_simp; with_reducible rfl))
        try simp only [Act.put, List.setIfInBounds_toArray, List.set_cons_zero, List.set_cons_succ]
        refine wpAnyH_take (i := 11) (oi := { dst := some 116, op := Op.fieldAddr 27 (Operand.tmp 2) 3, type := 0, pos := "law.go:73", after := #[{ on := 9, ground := Ground.guard }], guard := some (9, false) }) (v := ?_) rfl (by kernel_rfl) (by kernel_rfl) (by kernel_rfl) (fun _ _ _ h => h) (Or.inl ⟨by rfl, ?_⟩) (by assumption) ?_
        rotate_left 1
        · (intro W hSW; (try dsimp only at hSW); first | (go_simp; done) | (go_simp; with_reducible rfl))
        try simp only [Act.put, List.setIfInBounds_toArray, List.set_cons_zero, List.set_cons_succ]
        refine wpAnyH_take (i := 12) (oi := { dst := some 117, op := Op.load 24 (Operand.tmp 116), type := 24, pos := "law.go:73", after := #[{ on := 11, ground := Ground.data }, { on := 9, ground := Ground.guard }], guard := some (9, false) }) (v := ?_) rfl (by kernel_rfl) (by kernel_rfl) (by kernel_rfl) (fun _ _ _ h => h) (Or.inl ⟨by rfl, ?_⟩) (by assumption) ?_
        rotate_left 1
        · (intro W hSW; (try dsimp only at hSW); first | (go_simp; done) | (go_simp; with_reducible rfl))
        try simp only [Act.put, List.setIfInBounds_toArray, List.set_cons_zero, List.set_cons_succ]
        refine wpAnyH_take (i := 13) (oi := { dst := some 118, op := Op.move (Operand.tmp 18), type := 3, pos := "law.go:73", after := #[{ on := 9, ground := Ground.guard }], guard := some (9, false) }) (v := ?_) rfl (by kernel_rfl) (by kernel_rfl) (by kernel_rfl) (fun _ _ _ h => h) (Or.inl ⟨by rfl, ?_⟩) (by assumption) ?_
        rotate_left 1
        · (intro W hSW; (try dsimp only at hSW); first | (go_simp; done) | (go_simp; with_reducible rfl))
        try simp only [Act.put, List.setIfInBounds_toArray, List.set_cons_zero, List.set_cons_succ]
        refine wpAnyH_take (i := 15) (oi := { dst := some 120, op := Op.move (Operand.tmp 9), type := 3, pos := "law.go:73", after := #[{ on := 9, ground := Ground.guard }], guard := some (9, false) }) (v := ?_) rfl (by kernel_rfl) (by kernel_rfl) (by kernel_rfl) (fun _ _ _ h => h) (Or.inl ⟨by rfl, ?_⟩) (by assumption) ?_
        rotate_left 1
        · (intro W hSW; (try dsimp only at hSW); first | (go_simp; done) | (go_simp; with_reducible rfl))
        try simp only [Act.put, List.setIfInBounds_toArray, List.set_cons_zero, List.set_cons_succ]
        refine wpAnyH_take (i := 16) (oi := { dst := some 121, op := Op.fieldAddr 27 (Operand.tmp 2) 2, type := 0, pos := "law.go:73", after := #[{ on := 9, ground := Ground.guard }], guard := some (9, false) }) (v := ?_) rfl (by kernel_rfl) (by kernel_rfl) (by kernel_rfl) (fun _ _ _ h => h) (Or.inl ⟨by rfl, ?_⟩) (by assumption) ?_
        rotate_left 1
        · (intro W hSW; (try dsimp only at hSW); first | (go_simp; done) | (go_simp; with_reducible rfl))
        try simp only [Act.put, List.setIfInBounds_toArray, List.set_cons_zero, List.set_cons_succ]
        refine wpAnyH_take (i := 17) (oi := { dst := some 122, op := Op.load 23 (Operand.tmp 121), type := 23, pos := "law.go:73", after := #[{ on := 16, ground := Ground.data }, { on := 9, ground := Ground.guard }], guard := some (9, false) }) (v := ?_) rfl (by kernel_rfl) (by kernel_rfl) (by kernel_rfl) (fun _ _ _ h => h) (Or.inl ⟨by rfl, ?_⟩) (by assumption) ?_
        rotate_left 1
        · (intro W hSW; (try dsimp only at hSW); first | (go_simp; done) | (go_simp; with_reducible rfl))
        try simp only [Act.put, List.setIfInBounds_toArray, List.set_cons_zero, List.set_cons_succ]
        refine wpAnyH_take (i := 18) (oi := { dst := some 123, op := Op.call { callee := Callee.builtin Builtin.len, args := #[Operand.tmp 122], argTypes := #[23] }, type := 3, pos := "law.go:73", after := #[{ on := 17, ground := Ground.data }, { on := 9, ground := Ground.guard }], guard := some (9, false) }) (v := ?_) rfl (by kernel_rfl) (by kernel_rfl) (by kernel_rfl) (fun _ _ _ h => h) (Or.inl ⟨by rfl, ?_⟩) (by assumption) ?_
        rotate_left 1
        · (intro W hSW; (try dsimp only at hSW); first | (go_simp; done) | (go_simp; with_reducible rfl))
        try simp only [Act.put, List.setIfInBounds_toArray, List.set_cons_zero, List.set_cons_succ]
        refine wpAnyH_take (i := 19) (oi := { dst := some 124, op := Op.binOp BinOp.geq 3 (Operand.tmp 120) (Operand.tmp 123) 3, type := 4, pos := "law.go:73", after := #[{ on := 15, ground := Ground.data }, { on := 18, ground := Ground.data }, { on := 9, ground := Ground.guard }], guard := some (9, false) }) (v := ?_) rfl (by kernel_rfl) (by kernel_rfl) (by kernel_rfl) (fun _ _ _ h => h) (Or.inl ⟨by rfl, ?_⟩) (by assumption) ?_
        rotate_left 1
        · (intro W hSW; (try dsimp only at hSW); first | (go_simp; done) | (go_simp; with_reducible rfl))
        try simp only [Act.put, List.setIfInBounds_toArray, List.set_cons_zero, List.set_cons_succ]
        refine wpAnyH_ready (rs := [14]) (by kernel_rfl) (by simp) ?_
        refine (AllReadyH.cons (o := { dst := some 119, op := Op.call { callee := Callee.value (Operand.func 18), args := #[Operand.tmp 115, Operand.tmp 117, Operand.tmp 118], argTypes := #[32, 24, 3] }, type := 4, pos := "law.go:73", after := #[{ on := 10, ground := Ground.data }, { on := 12, ground := Ground.data }, { on := 13, ground := Ground.data }, { on := 9, ground := Ground.chain }, { on := 9, ground := Ground.guard }], guard := some (9, false) }) rfl (fun K hK => ?_) AllReadyH.nil)
        rw [if_pos (by rfl)]
        go_simp
        go_at_call 18
        refine (reval_n gQ vals lQ qv HNV.out FQ.out (by have := GXs.out.2.2.2.1.2.1; omega) HV20.out GXs.out.2.2.2.1.1 GXs.out.2.2.2.1.2.2 ((HQ.out.grown hgr1).2.2) (HI.out.v.grown hgr1)).mono ?_
        rintro e wc2 ⟨rfl, gc2⟩
        have hgr2 := World.grownBy.trans hgr1 gc2
        go_wp2_with fail
        refine hK.out _ _ (HS.out _ hgr2) (fun hHeld => ?_)
        clear hK K
        try simp only [Act.put, List.setIfInBounds_toArray, List.set_cons_zero, List.set_cons_succ]
        refine wpAnyH_take (i := 20) (oi := { dst := some 125, op := Op.binOp BinOp.neq 4 (Operand.tmp 119) (Operand.tmp 124) 4, type := 4, pos := "law.go:73", after := #[{ on := 14, ground := Ground.data }, { on := 19, ground := Ground.data }, { on := 9, ground := Ground.guard }], guard := some (9, false) }) (v := ?_) rfl (by kernel_rfl) (by kernel_rfl) (by kernel_rfl) (fun _ _ _ h => h) (Or.inl ⟨by rfl, ?_⟩) (by assumption) ?_
        rotate_left 1
        · (intro W hSW; (try dsimp only at hSW); first | (go_simp; done) | (go_simp; with_reducible rfl))
        try simp only [Act.put, List.setIfInBounds_toArray, List.set_cons_zero, List.set_cons_succ]
        refine wpAnyH_take (i := 21) (oi := { dst := some 126, op := Op.pick (Operand.tmp 114) (Operand.const (Value.bool true)) (Operand.tmp 125), type := 4, pos := "law.go:73", after := #[{ on := 9, ground := Ground.data }, { on := 20, ground := Ground.data }], guard := none }) (v := ?_) rfl (by kernel_rfl) (by kernel_rfl) (by kernel_rfl) (fun _ _ _ h => h) (Or.inl ⟨by rfl, ?_⟩) (by assumption) ?_
        rotate_left 1
        · (intro W hSW; (try dsimp only at hSW); first | (go_simp; done) | (go_simp; with_reducible rfl))
        try simp only [Act.put, List.setIfInBounds_toArray, List.set_cons_zero, List.set_cons_succ]
        refine wpAnyH_take (i := 22) (oi := { dst := some 127, op := Op.move (Operand.tmp 126), type := 4, pos := "law.go:73", after := #[{ on := 21, ground := Ground.data }, { on := 14, ground := Ground.chain }], guard := none }) (v := ?_) rfl (by kernel_rfl) (by kernel_rfl) (by kernel_rfl) (fun _ _ _ h => h) (Or.inl ⟨by rfl, ?_⟩) (by assumption) ?_
        rotate_left 1
        · (intro W hSW; (try dsimp only at hSW); first | (go_simp; done) | (go_simp; with_reducible rfl))
        try simp only [Act.put, List.setIfInBounds_toArray, List.set_cons_zero, List.set_cons_succ]
        refine wpAnyH_take (i := 23) (oi := { dst := some 128, op := Op.move (Operand.tmp 1), type := 3, pos := "law.go:73", after := #[{ on := 22, ground := Ground.guard }], guard := some (22, false) }) (v := ?_) rfl (by kernel_rfl) (by kernel_rfl) (by kernel_rfl) (fun _ _ _ h => h) (Or.inl ⟨by rfl, ?_⟩) (by assumption) ?_
        rotate_left 1
        · (intro W hSW; (try dsimp only at hSW); first | (go_simp; done) | (go_simp; with_reducible rfl))
        try simp only [Act.put, List.setIfInBounds_toArray, List.set_cons_zero, List.set_cons_succ]
        refine wpAnyH_take (i := 24) (oi := { dst := some 129, op := Op.binOp BinOp.leq 3 (Operand.tmp 128) (Operand.const (Value.int IntKind.i64 0)) 3, type := 4, pos := "law.go:73", after := #[{ on := 23, ground := Ground.data }, { on := 22, ground := Ground.guard }], guard := some (22, false) }) (v := ?_) rfl (by kernel_rfl) (by kernel_rfl) (by kernel_rfl) (fun _ _ _ h => h) (Or.inl ⟨by rfl, ?_⟩) (by assumption) ?_
        rotate_left 1
        · (intro W hSW; (try dsimp only at hSW); first | (go_simp; done) | (go_simp; with_reducible rfl))
        try simp only [Act.put, List.setIfInBounds_toArray, List.set_cons_zero, List.set_cons_succ]
        refine wpAnyH_take (i := 25) (oi := { dst := some 130, op := Op.move (Operand.tmp 129), type := 4, pos := "law.go:73", after := #[{ on := 24, ground := Ground.data }, { on := 22, ground := Ground.chain }, { on := 22, ground := Ground.guard }], guard := some (22, false) }) (v := ?_) rfl (by kernel_rfl) (by kernel_rfl) (by kernel_rfl) (fun _ _ _ h => h) (Or.inl ⟨by rfl, ?_⟩) (by assumption) ?_
        rotate_left 1
        · (intro W hSW; (try dsimp only at hSW); first | (go_simp; done) | (go_simp; with_reducible rfl))
        try simp only [Act.put, List.setIfInBounds_toArray, List.set_cons_zero, List.set_cons_succ]
        refine wpAnyH_take (i := 26) (oi := { dst := some 131, op := Op.move (Operand.tmp 16), type := 3, pos := "law.go:73", after := #[{ on := 25, ground := Ground.guard }], guard := some (25, true) }) (v := undef) rfl (by kernel_rfl) (by kernel_rfl) (by kernel_rfl) (fun _ _ _ h => h) (Or.inr ⟨by rfl, rfl⟩) (by assumption) ?_
        try simp only [Act.put, List.setIfInBounds_toArray, List.set_cons_zero, List.set_cons_succ]
        refine wpAnyH_take (i := 27) (oi := { dst := some 132, op := Op.binOp BinOp.neq 3 (Operand.tmp 131) (Operand.const (Value.int IntKind.i64 0)) 3, type := 4, pos := "law.go:73", after := #[{ on := 26, ground := Ground.data }, { on := 25, ground := Ground.guard }], guard := some (25, true) }) (v := undef) rfl (by kernel_rfl) (by kernel_rfl) (by kernel_rfl) (fun _ _ _ h => h) (Or.inr ⟨by rfl, rfl⟩) (by assumption) ?_
        try simp only [Act.put, List.setIfInBounds_toArray, List.set_cons_zero, List.set_cons_succ]
        refine wpAnyH_take (i := 28) (oi := { dst := some 133, op := Op.pick (Operand.tmp 130) (Operand.tmp 132) (Operand.const (Value.bool false)), type := 4, pos := "law.go:73", after := #[{ on := 25, ground := Ground.data }, { on := 27, ground := Ground.data }, { on := 22, ground := Ground.guard }], guard := some (22, false) }) (v := ?_) rfl (by kernel_rfl) (by kernel_rfl) (by kernel_rfl) (fun _ _ _ h => h) (Or.inl ⟨by rfl, ?_⟩) (by assumption) ?_
        rotate_left 1
        · (intro W hSW; (try dsimp only at hSW); first | (go_simp; done) | (go_simp; with_reducible rfl))
        try simp only [Act.put, List.setIfInBounds_toArray, List.set_cons_zero, List.set_cons_succ]
        refine wpAnyH_take (i := 29) (oi := { dst := some 134, op := Op.pick (Operand.tmp 127) (Operand.const (Value.bool true)) (Operand.tmp 133), type := 4, pos := "law.go:73", after := #[{ on := 22, ground := Ground.data }, { on := 28, ground := Ground.data }], guard := none }) (v := ?_) rfl (by kernel_rfl) (by kernel_rfl) (by kernel_rfl) (fun _ _ _ h => h) (Or.inl ⟨by rfl, ?_⟩) (by assumption) ?_
        rotate_left 1
        · (intro W hSW; (try dsimp only at hSW); first | (go_simp; done) | (go_simp; with_reducible rfl))
        try simp only [Act.put, List.setIfInBounds_toArray, List.set_cons_zero, List.set_cons_succ]
        refine wpAnyH_take (i := 30) (oi := { dst := some 135, op := Op.move (Operand.tmp 134), type := 4, pos := "law.go:73", after := #[{ on := 29, ground := Ground.data }, { on := 25, ground := Ground.chain }], guard := none }) (v := ?_) rfl (by kernel_rfl) (by kernel_rfl) (by kernel_rfl) (fun _ _ _ h => h) (Or.inl ⟨by rfl, ?_⟩) (by assumption) ?_
        rotate_left 1
        · (intro W hSW; (try dsimp only at hSW); first | (go_simp; done) | (go_simp; with_reducible rfl))
        try simp only [Act.put, List.setIfInBounds_toArray, List.set_cons_zero, List.set_cons_succ]
        refine wpAnyH_take (i := 31) (oi := { dst := some 136, op := Op.move (Operand.tmp 1), type := 3, pos := "law.go:73", after := #[{ on := 30, ground := Ground.guard }], guard := some (30, false) }) (v := ?_) rfl (by kernel_rfl) (by kernel_rfl) (by kernel_rfl) (fun _ _ _ h => h) (Or.inl ⟨by rfl, ?_⟩) (by assumption) ?_
        rotate_left 1
        · (intro W hSW; (try dsimp only at hSW); first | (go_simp; done) | (go_simp; with_reducible rfl))
        try simp only [Act.put, List.setIfInBounds_toArray, List.set_cons_zero, List.set_cons_succ]
        refine wpAnyH_take (i := 32) (oi := { dst := some 137, op := Op.move (Operand.tmp 7), type := 33, pos := "law.go:73", after := #[{ on := 30, ground := Ground.guard }], guard := some (30, false) }) (v := ?_) rfl (by kernel_rfl) (by kernel_rfl) (by kernel_rfl) (fun _ _ _ h => h) (Or.inl ⟨by rfl, ?_⟩) (by assumption) ?_
        rotate_left 1
        · (intro W hSW; (try dsimp only at hSW); first | (go_simp; done) | (go_simp; with_reducible rfl))
        try simp only [Act.put, List.setIfInBounds_toArray, List.set_cons_zero, List.set_cons_succ]
        refine wpAnyH_take (i := 33) (oi := { dst := some 138, op := Op.call { callee := Callee.builtin Builtin.len, args := #[Operand.tmp 137], argTypes := #[33] }, type := 3, pos := "law.go:73", after := #[{ on := 32, ground := Ground.data }, { on := 30, ground := Ground.guard }], guard := some (30, false) }) (v := ?_) rfl (by kernel_rfl) (by kernel_rfl) (by kernel_rfl) (fun _ _ _ h => h) (Or.inl ⟨by rfl, ?_⟩) (by assumption) ?_
        rotate_left 1
        · (intro W hSW; (try dsimp only at hSW); first | (go_simp; done) | (go_simp; with_reducible rfl))
        try simp only [Act.put, List.setIfInBounds_toArray, List.set_cons_zero, List.set_cons_succ]
        refine wpAnyH_take (i := 34) (oi := { dst := some 139, op := Op.binOp BinOp.gtr 3 (Operand.tmp 136) (Operand.tmp 138) 3, type := 4, pos := "law.go:73", after := #[{ on := 31, ground := Ground.data }, { on := 33, ground := Ground.data }, { on := 30, ground := Ground.guard }], guard := some (30, false) }) (v := ?_) rfl (by kernel_rfl) (by kernel_rfl) (by kernel_rfl) (fun _ _ _ h => h) (Or.inl ⟨by rfl, ?_⟩) (by assumption) ?_
        rotate_left 1
        · (intro W hSW; (try dsimp only at hSW); first | (go_simp; done) | (go_simp; with_reducible rfl))
        try simp only [Act.put, List.setIfInBounds_toArray, List.set_cons_zero, List.set_cons_succ]
        refine wpAnyH_take (i := 35) (oi := { dst := some 140, op := Op.move (Operand.tmp 139), type := 4, pos := "law.go:73", after := #[{ on := 34, ground := Ground.data }, { on := 30, ground := Ground.chain }, { on := 30, ground := Ground.guard }], guard := some (30, false) }) (v := ?_) rfl (by kernel_rfl) (by kernel_rfl) (by kernel_rfl) (fun _ _ _ h => h) (Or.inl ⟨by rfl, ?_⟩) (by assumption) ?_
        rotate_left 1
        · (intro W hSW; (try dsimp only at hSW); first | (go_simp; done) | (go_simp; with_reducible rfl))
        try simp only [Act.put, List.setIfInBounds_toArray, List.set_cons_zero, List.set_cons_succ]
        refine wpAnyH_take (i := 36) (oi := { dst := some 141, op := Op.move (Operand.tmp 16), type := 3, pos := "law.go:73", after := #[{ on := 35, ground := Ground.guard }], guard := some (35, true) }) (v := undef) rfl (by kernel_rfl) (by kernel_rfl) (by kernel_rfl) (fun _ _ _ h => h) (Or.inr ⟨by rfl, rfl⟩) (by assumption) ?_
        try simp only [Act.put, List.setIfInBounds_toArray, List.set_cons_zero, List.set_cons_succ]
        refine wpAnyH_take (i := 37) (oi := { dst := some 142, op := Op.binOp BinOp.neq 3 (Operand.tmp 141) (Operand.const (Value.int IntKind.i64 1)) 3, type := 4, pos := "law.go:73", after := #[{ on := 36, ground := Ground.data }, { on := 35, ground := Ground.guard }], guard := some (35, true) }) (v := undef) rfl (by kernel_rfl) (by kernel_rfl) (by kernel_rfl) (fun _ _ _ h => h) (Or.inr ⟨by rfl, rfl⟩) (by assumption) ?_
        try simp only [Act.put, List.setIfInBounds_toArray, List.set_cons_zero, List.set_cons_succ]
        refine wpAnyH_take (i := 38) (oi := { dst := some 143, op := Op.pick (Operand.tmp 140) (Operand.tmp 142) (Operand.const (Value.bool false)), type := 4, pos := "law.go:73", after := #[{ on := 35, ground := Ground.data }, { on := 37, ground := Ground.data }, { on := 30, ground := Ground.guard }], guard := some (30, false) }) (v := ?_) rfl (by kernel_rfl) (by kernel_rfl) (by kernel_rfl) (fun _ _ _ h => h) (Or.inl ⟨by rfl, ?_⟩) (by assumption) ?_
        rotate_left 1
        · (intro W hSW; (try dsimp only at hSW); first | (go_simp; done) | (go_simp; with_reducible rfl))
        try simp only [Act.put, List.setIfInBounds_toArray, List.set_cons_zero, List.set_cons_succ]
        refine wpAnyH_take (i := 39) (oi := { dst := some 144, op := Op.pick (Operand.tmp 135) (Operand.const (Value.bool true)) (Operand.tmp 143), type := 4, pos := "law.go:73", after := #[{ on := 30, ground := Ground.data }, { on := 38, ground := Ground.data }], guard := none }) (v := ?_) rfl (by kernel_rfl) (by kernel_rfl) (by kernel_rfl) (fun _ _ _ h => h) (Or.inl ⟨by rfl, ?_⟩) (by assumption) ?_
        rotate_left 1
        · (intro W hSW; (try dsimp only at hSW); first | (go_simp; done) | (go_simp; with_reducible rfl))
        try simp only [Act.put, List.setIfInBounds_toArray, List.set_cons_zero, List.set_cons_succ]
        refine wpAnyH_done (by kernel_rfl) ?_ _
        have hEND := hgr2
        clear hHeld
        go_wp2_with fail
        go_meet
        exact ⟨rfl, hEND⟩
    obtain ⟨rfl, g⟩ := hcut
    obtain ⟨V17, rfl⟩ : ∃ z, z = wc := ⟨_, rfl⟩
    clear hpv hqv hqv2
    replace Hc := Lib.hid (Hc.out.grown g)
    replace HSo := Lib.hid (HSo.out.grown g)
    replace HT := Lib.hid (HT.out.grown g)
    replace HP := Lib.hid (HP.out.grown g)
    replace HQ := Lib.hid (HQ.out.grown g)
    replace HX := Lib.hid (HX.out.grown g)
    replace HI := Lib.hid (HI.out.grown g)
    replace Rla := Lib.hid (Rla.out.grown g)
    replace Rlb := Lib.hid (Rlb.out.grown g)
    replace RlS := Lib.hid (RlS.out.grown g)
    replace RlT := Lib.hid (RlT.out.grown g)
    replace HG := Lib.hid (World.grownBy.trans HG.out g)
    clear g
    have qc := Hc.out.1
    have qSo := HSo.out.1
    have qT := HT.out.1
    have qP := HP.out.1
    have qQ := HQ.out.1
    have x0 := HX.out.c0
    have x1 := HX.out.c1
    have x2 := HX.out.c2
    have x3 := HX.out.c3
    have x4 := HX.out.c4
    go_upto_region 15 with fail
    clear qc qSo qT qP qQ x0 x1 x2 x3 x4
    have qc := Hc.out.1
    have qSo := HSo.out.1
    have qT := HT.out.1
    have qP := HP.out.1
    have qQ := HQ.out.1
    have x0 := HX.out.c0
    have x1 := HX.out.c1
    have x2 := HX.out.c2
    have x3 := HX.out.c3
    have x4 := HX.out.c4
    go_wp2_with fail
    clear qc qSo qT qP qQ x0 x1 x2 x3 x4
    refine (HCU.out _ _ _ _ _ Hc.out.2.2 Rla.out).mono ?_
    rintro e V18 ⟨a18, c18, b18, d18, rfl, hr, hrow, g⟩
    replace Hc := Lib.hid (Hc.out.grown g)
    replace HSo := Lib.hid (HSo.out.grown g)
    replace HT := Lib.hid (HT.out.grown g)
    replace HP := Lib.hid (HP.out.grown g)
    replace HQ := Lib.hid (HQ.out.grown g)
    replace HX := Lib.hid (HX.out.grown g)
    replace HI := Lib.hid (HI.out.grown g)
    replace Rla := Lib.hid (Rla.out.grown g)
    replace Rlb := Lib.hid (Rlb.out.grown g)
    replace RlS := Lib.hid (RlS.out.grown g)
    replace RlT := Lib.hid (RlT.out.grown g)
    replace HG := Lib.hid (World.grownBy.trans HG.out g)
    clear g
    have RlU := Lib.hid hrow
    clear hrow
    have qc := Hc.out.1
    have qSo := HSo.out.1
    have qT := HT.out.1
    have qP := HP.out.1
    have qQ := HQ.out.1
    have x0 := HX.out.c0
    have x1 := HX.out.c1
    have x2 := HX.out.c2
    have x3 := HX.out.c3
    have x4 := HX.out.c4
    go_upto_region 16 with fail
    clear qc qSo qT qP qQ x0 x1 x2 x3 x4
    have hb := CB.new hr
    have g := World.grownBy_alloc V18 (.cells #[.slice a18 gU.length c18] 32) none
    obtain ⟨V19, hV19⟩ : ∃ z, World.alloc V18 (.cells #[.slice a18 gU.length c18] 32) = z := ⟨_, rfl⟩
    rw [hV19] at g hb ⊢
    clear hV19 hr
    obtain ⟨bU, hbb⟩ : ∃ b, V18.heap.size = b := ⟨_, rfl⟩
    rw [hbb] at hb ⊢
    clear hbb
    replace Hc := Lib.hid (Hc.out.grown g)
    replace HSo := Lib.hid (HSo.out.grown g)
    replace HT := Lib.hid (HT.out.grown g)
    replace HP := Lib.hid (HP.out.grown g)
    replace HQ := Lib.hid (HQ.out.grown g)
    replace HX := Lib.hid (HX.out.grown g)
    replace HI := Lib.hid (HI.out.grown g)
    replace Rla := Lib.hid (Rla.out.grown g)
    replace Rlb := Lib.hid (Rlb.out.grown g)
    replace RlS := Lib.hid (RlS.out.grown g)
    replace RlT := Lib.hid (RlT.out.grown g)
    replace RlU := Lib.hid (RlU.out.grown g)
    replace HG := Lib.hid (World.grownBy.trans HG.out g)
    clear g
    have HU := Lib.hid hb
    clear hb
    have qc := Hc.out.1
    have qSo := HSo.out.1
    have qT := HT.out.1
    have qP := HP.out.1
    have qQ := HQ.out.1
    have qU := HU.out.1
    have x0 := HX.out.c0
    have x1 := HX.out.c1
    have x2 := HX.out.c2
    have x3 := HX.out.c3
    have x4 := HX.out.c4
    go_wp2_with fail
    clear qc qSo qT qP qQ qU x0 x1 x2 x3 x4
    refine (HCV.out _ _ _ _ _ HU.out.2.2 Rlb.out).mono ?_
    rintro e V20 ⟨a20, c20, b20, d20, rfl, hr, hrow, g⟩
    replace Hc := Lib.hid (Hc.out.grown g)
    replace HSo := Lib.hid (HSo.out.grown g)
    replace HT := Lib.hid (HT.out.grown g)
    replace HP := Lib.hid (HP.out.grown g)
    replace HQ := Lib.hid (HQ.out.grown g)
    replace HU := Lib.hid (HU.out.grown g)
    replace HX := Lib.hid (HX.out.grown g)
    replace HI := Lib.hid (HI.out.grown g)
    replace Rla := Lib.hid (Rla.out.grown g)
    replace Rlb := Lib.hid (Rlb.out.grown g)
    replace RlS := Lib.hid (RlS.out.grown g)
    replace RlT := Lib.hid (RlT.out.grown g)
    replace RlU := Lib.hid (RlU.out.grown g)
    replace HG := Lib.hid (World.grownBy.trans HG.out g)
    clear g
    have RlV := Lib.hid hrow
    clear hrow
    have qc := Hc.out.1
    have qSo := HSo.out.1
    have qT := HT.out.1
    have qP := HP.out.1
    have qQ := HQ.out.1
    have qU := HU.out.1
    have x0 := HX.out.c0
    have x1 := HX.out.c1
    have x2 := HX.out.c2
    have x3 := HX.out.c3
    have x4 := HX.out.c4
    go_upto_region 17 with fail
    clear qc qSo qT qP qQ qU x0 x1 x2 x3 x4
    have hb := CB.new hr
    have g := World.grownBy_alloc V20 (.cells #[.slice a20 gV.length c20] 32) none
    obtain ⟨V21, hV21⟩ : ∃ z, World.alloc V20 (.cells #[.slice a20 gV.length c20] 32) = z := ⟨_, rfl⟩
    rw [hV21] at g hb ⊢
    clear hV21 hr
    obtain ⟨bV, hbb⟩ : ∃ b, V20.heap.size = b := ⟨_, rfl⟩
    rw [hbb] at hb ⊢
    clear hbb
    replace Hc := Lib.hid (Hc.out.grown g)
    replace HSo := Lib.hid (HSo.out.grown g)
    replace HT := Lib.hid (HT.out.grown g)
    replace HP := Lib.hid (HP.out.grown g)
    replace HQ := Lib.hid (HQ.out.grown g)
    replace HU := Lib.hid (HU.out.grown g)
    replace HX := Lib.hid (HX.out.grown g)
    replace HI := Lib.hid (HI.out.grown g)
    replace Rla := Lib.hid (Rla.out.grown g)
    replace Rlb := Lib.hid (Rlb.out.grown g)
    replace RlS := Lib.hid (RlS.out.grown g)
    replace RlT := Lib.hid (RlT.out.grown g)
    replace RlU := Lib.hid (RlU.out.grown g)
    replace RlV := Lib.hid (RlV.out.grown g)
    replace HG := Lib.hid (World.grownBy.trans HG.out g)
    clear g
    have HV := Lib.hid hb
    clear hb
    have qc := Hc.out.1
    have qSo := HSo.out.1
    have qT := HT.out.1
    have qP := HP.out.1
    have qQ := HQ.out.1
    have qU := HU.out.1
    have qV := HV.out.1
    have x0 := HX.out.c0
    have x1 := HX.out.c1
    have x2 := HX.out.c2
    have x3 := HX.out.c3
    have x4 := HX.out.c4
    go_wp2_with fail
    clear qc qSo qT qP qQ qU qV x0 x1 x2 x3 x4
    refine (HCJ.out _ _ _ _ _ _ _ HV.out.2.2 RlU.out RlV.out).mono ?_
    rintro e V22 ⟨a22, c22, b22, d22, rfl, hr, hrow, g⟩
    replace Hc := Lib.hid (Hc.out.grown g)
    replace HSo := Lib.hid (HSo.out.grown g)
    replace HT := Lib.hid (HT.out.grown g)
    replace HP := Lib.hid (HP.out.grown g)
    replace HQ := Lib.hid (HQ.out.grown g)
    replace HU := Lib.hid (HU.out.grown g)
    replace HV := Lib.hid (HV.out.grown g)
    replace HX := Lib.hid (HX.out.grown g)
    replace HI := Lib.hid (HI.out.grown g)
    replace Rla := Lib.hid (Rla.out.grown g)
    replace Rlb := Lib.hid (Rlb.out.grown g)
    replace RlS := Lib.hid (RlS.out.grown g)
    replace RlT := Lib.hid (RlT.out.grown g)
    replace RlU := Lib.hid (RlU.out.grown g)
    replace RlV := Lib.hid (RlV.out.grown g)
    replace HG := Lib.hid (World.grownBy.trans HG.out g)
    clear g
    have RlJ := Lib.hid hrow
    clear hrow
    have qc := Hc.out.1
    have qSo := HSo.out.1
    have qT := HT.out.1
    have qP := HP.out.1
    have qQ := HQ.out.1
    have qU := HU.out.1
    have qV := HV.out.1
    have x0 := HX.out.c0
    have x1 := HX.out.c1
    have x2 := HX.out.c2
    have x3 := HX.out.c3
    have x4 := HX.out.c4
    go_upto_region 18 with fail
    clear qc qSo qT qP qQ qU qV x0 x1 x2 x3 x4
    have hb := CB.new hr
    have g := World.grownBy_alloc V22 (.cells #[.slice a22 gJ.length c22] 32) none
    obtain ⟨V23, hV23⟩ : ∃ z, World.alloc V22 (.cells #[.slice a22 gJ.length c22] 32) = z := ⟨_, rfl⟩
    rw [hV23] at g hb ⊢
    clear hV23 hr
    obtain ⟨bJ, hbb⟩ : ∃ b, V22.heap.size = b := ⟨_, rfl⟩
    rw [hbb] at hb ⊢
    clear hbb
    replace Hc := Lib.hid (Hc.out.grown g)
    replace HSo := Lib.hid (HSo.out.grown g)
    replace HT := Lib.hid (HT.out.grown g)
    replace HP := Lib.hid (HP.out.grown g)
    replace HQ := Lib.hid (HQ.out.grown g)
    replace HU := Lib.hid (HU.out.grown g)
    replace HV := Lib.hid (HV.out.grown g)
    replace HX := Lib.hid (HX.out.grown g)
    replace HI := Lib.hid (HI.out.grown g)
    replace Rla := Lib.hid (Rla.out.grown g)
    replace Rlb := Lib.hid (Rlb.out.grown g)
    replace RlS := Lib.hid (RlS.out.grown g)
    replace RlT := Lib.hid (RlT.out.grown g)
    replace RlU := Lib.hid (RlU.out.grown g)
    replace RlV := Lib.hid (RlV.out.grown g)
    replace RlJ := Lib.hid (RlJ.out.grown g)
    replace HG := Lib.hid (World.grownBy.trans HG.out g)
    clear g
    have HJ := Lib.hid hb
    clear hb
    have wy : IntKind.i64.wrap y = y := IntWalk.i64_in _ (by have := HY.out; omega)
    have qc := Hc.out.1
    have qSo := HSo.out.1
    have qT := HT.out.1
    have qP := HP.out.1
    have qQ := HQ.out.1
    have qU := HU.out.1
    have qV := HV.out.1
    have qJ := HJ.out.1
    have x0 := HX.out.c0
    have x1 := HX.out.c1
    have x2 := HX.out.c2
    have x3 := HX.out.c3
    have x4 := HX.out.c4
    go_wp2_with fail
    clear qc qSo qT qP qQ qU qV qJ x0 x1 x2 x3 x4
    refine (HCL.out _ _ _ _ _ _ _ HV.out.2.2 RlU.out RlV.out).mono ?_
    rintro e V24 ⟨a24, c24, rfl, hr, g⟩
    replace Hc := Lib.hid (Hc.out.grown g)
    replace HSo := Lib.hid (HSo.out.grown g)
    replace HT := Lib.hid (HT.out.grown g)
    replace HP := Lib.hid (HP.out.grown g)
    replace HQ := Lib.hid (HQ.out.grown g)
    replace HU := Lib.hid (HU.out.grown g)
    replace HV := Lib.hid (HV.out.grown g)
    replace HJ := Lib.hid (HJ.out.grown g)
    replace HX := Lib.hid (HX.out.grown g)
    replace HI := Lib.hid (HI.out.grown g)
    replace Rla := Lib.hid (Rla.out.grown g)
    replace Rlb := Lib.hid (Rlb.out.grown g)
    replace RlS := Lib.hid (RlS.out.grown g)
    replace RlT := Lib.hid (RlT.out.grown g)
    replace RlU := Lib.hid (RlU.out.grown g)
    replace RlV := Lib.hid (RlV.out.grown g)
    replace RlJ := Lib.hid (RlJ.out.grown g)
    replace HG := Lib.hid (World.grownBy.trans HG.out g)
    clear g
    have qc := Hc.out.1
    have qSo := HSo.out.1
    have qT := HT.out.1
    have qP := HP.out.1
    have qQ := HQ.out.1
    have qU := HU.out.1
    have qV := HV.out.1
    have qJ := HJ.out.1
    have x0 := HX.out.c0
    have x1 := HX.out.c1
    have x2 := HX.out.c2
    have x3 := HX.out.c3
    have x4 := HX.out.c4
    go_upto_region 19 with fail
    clear qc qSo qT qP qQ qU qV qJ x0 x1 x2 x3 x4
    have hb := CB.new hr
    have g := World.grownBy_alloc V24 (.cells #[.slice a24 gL.length c24] 32) none
    obtain ⟨V25, hV25⟩ : ∃ z, World.alloc V24 (.cells #[.slice a24 gL.length c24] 32) = z := ⟨_, rfl⟩
    rw [hV25] at g hb ⊢
    clear hV25 hr
    obtain ⟨bLb, hbb⟩ : ∃ b, V24.heap.size = b := ⟨_, rfl⟩
    rw [hbb] at hb ⊢
    clear hbb
    replace Hc := Lib.hid (Hc.out.grown g)
    replace HSo := Lib.hid (HSo.out.grown g)
    replace HT := Lib.hid (HT.out.grown g)
    replace HP := Lib.hid (HP.out.grown g)
    replace HQ := Lib.hid (HQ.out.grown g)
    replace HU := Lib.hid (HU.out.grown g)
    replace HV := Lib.hid (HV.out.grown g)
    replace HJ := Lib.hid (HJ.out.grown g)
    replace HX := Lib.hid (HX.out.grown g)
    replace HI := Lib.hid (HI.out.grown g)
    replace Rla := Lib.hid (Rla.out.grown g)
    replace Rlb := Lib.hid (Rlb.out.grown g)
    replace RlS := Lib.hid (RlS.out.grown g)
    replace RlT := Lib.hid (RlT.out.grown g)
    replace RlU := Lib.hid (RlU.out.grown g)
    replace RlV := Lib.hid (RlV.out.grown g)
    replace RlJ := Lib.hid (RlJ.out.grown g)
    replace HG := Lib.hid (World.grownBy.trans HG.out g)
    clear g
    have HLb := Lib.hid hb
    clear hb
    obtain ⟨my, hmy⟩ : ∃ z : Int, (m : Int) + y = z := ⟨_, rfl⟩
    have w1 : IntKind.i64.wrap ((na : Int) + (nb : Int)) = (nab : Int) := by have := HNM.out; rw [IntWalk.i64_in _ (by omega)]; omega
    have w2 : IntKind.i64.wrap ((n : Int) + (m : Int)) = (nm : Int) := by have := HNM.out; rw [IntWalk.i64_in _ (by omega)]; omega
    have w3 : IntKind.i64.wrap ((m : Int) + y) = my := by have := HNM.out; have := HY.out; rw [IntWalk.i64_in _ (by omega)]; exact hmy
    obtain ⟨lv, hlv⟩ : ∃ p, decide ((n : Int) < my) = p := ⟨_, rfl⟩
    have FL := Lib.hid (show evalC gL vals lL = lv from by rw [EX.out.2.2, hmy]; exact hlv)
    clear hmy
    have HS := Lib.hid (fun (Wh : World) (hWh : V25.grownBy Wh none) => (⟨hWh, hWh.cell HJ.out.1 (by simp), hWh.cell HLb.out.1 (by simp), hWh.cell Hc.out.1 (by simp), hWh.cell HV.out.1 (by simp), hWh.cell HX.out.c3 (by simp), hWh.cell HX.out.c4 (by simp)⟩ : (fun Wh : World => V25.grownBy Wh none ∧ Wh.cell? ⟨bJ, 0, none⟩ = some (.slice a22 gJ.length c22) ∧ Wh.cell? ⟨bLb, 0, none⟩ = some (.slice a24 gL.length c24) ∧ Wh.cell? ⟨bc, 0, none⟩ = some (.slice a3 g0.length c3) ∧ Wh.cell? ⟨bV, 0, none⟩ = some (.slice a20 gV.length c20) ∧ Wh.cell? ⟨bX, 3, none⟩ = some (.slice va nv vc) ∧ Wh.cell? ⟨bX, 4, none⟩ = some (.int .i8 y)) Wh))
    have hdr : V25.grownBy V25.drew none := ⟨rfl, rfl, rfl, Nat.le_refl _, fun _ _ _ => rfl⟩
    refine wp_region_held_drew (S := (fun Wh : World => V25.grownBy Wh none ∧ Wh.cell? ⟨bJ, 0, none⟩ = some (.slice a22 gJ.length c22) ∧ Wh.cell? ⟨bLb, 0, none⟩ = some (.slice a24 gL.length c24) ∧ Wh.cell? ⟨bc, 0, none⟩ = some (.slice a3 g0.length c3) ∧ Wh.cell? ⟨bV, 0, none⟩ = some (.slice a20 gV.length c20) ∧ Wh.cell? ⟨bX, 3, none⟩ = some (.slice va nv vc) ∧ Wh.cell? ⟨bX, 4, none⟩ = some (.int .i8 y))) (by kernel_rfl) (HS.out _ hdr) (fun hHeld => ?_)
    refine wpAnyH_take (i := 0) (oi := { dst := some 174, op := Op.move (Operand.tmp 5), type := 4, pos := "law.go:80", after := #[], guard := none }) (v := ?_) rfl (by kernel_rfl) (by kernel_rfl) (by kernel_rfl) (fun _ _ _ h => h) (Or.inl ⟨by rfl, ?_⟩) (by assumption) ?_
    rotate_left 1
    · (intro W hSW; (try dsimp only at hSW); first | (go_simp; done) | (go_simp; with_reducible rfl))
    try simp only [Act.put, List.setIfInBounds_toArray, List.set_cons_zero, List.set_cons_succ]
    refine wpAnyH_take (i := 1) (oi := { dst := some 175, op := Op.move (Operand.tmp 174), type := 4, pos := "law.go:80", after := #[{ on := 0, ground := Ground.data }], guard := none }) (v := ?_) rfl (by kernel_rfl) (by kernel_rfl) (by kernel_rfl) (fun _ _ _ h => h) (Or.inl ⟨by rfl, ?_⟩) (by assumption) ?_
    rotate_left 1
    · (intro W hSW; (try dsimp only at hSW); first | (go_simp; done) | (go_simp; with_reducible rfl))
    try simp only [Act.put, List.setIfInBounds_toArray, List.set_cons_zero, List.set_cons_succ]
    refine wpAnyH_take (i := 2) (oi := { dst := some 176, op := Op.move (Operand.tmp 24), type := 33, pos := "law.go:80", after := #[{ on := 1, ground := Ground.guard }], guard := some (1, true) }) (v := ?_) rfl (by kernel_rfl) (by kernel_rfl) (by kernel_rfl) (fun _ _ _ h => h) (Or.inl ⟨by rfl, ?_⟩) (by assumption) ?_
    rotate_left 1
    · (intro W hSW; (try dsimp only at hSW); first | (go_simp; done) | (go_simp; with_reducible rfl))
    try simp only [Act.put, List.setIfInBounds_toArray, List.set_cons_zero, List.set_cons_succ]
    refine wpAnyH_take (i := 3) (oi := { dst := some 177, op := Op.call { callee := Callee.builtin Builtin.len, args := #[Operand.tmp 176], argTypes := #[33] }, type := 3, pos := "law.go:80", after := #[{ on := 2, ground := Ground.data }, { on := 1, ground := Ground.guard }], guard := some (1, true) }) (v := ?_) rfl (by kernel_rfl) (by kernel_rfl) (by kernel_rfl) (fun _ _ _ h => h) (Or.inl ⟨by rfl, ?_⟩) (by assumption) ?_
    rotate_left 1
    · (intro W hSW; (try dsimp only at hSW); first | (go_simp; done) | (go_simp; with_reducible rfl))
    try simp only [Act.put, List.setIfInBounds_toArray, List.set_cons_zero, List.set_cons_succ]
    refine wpAnyH_take (i := 4) (oi := { dst := some 178, op := Op.move (Operand.tmp 7), type := 33, pos := "law.go:80", after := #[{ on := 1, ground := Ground.guard }], guard := some (1, true) }) (v := ?_) rfl (by kernel_rfl) (by kernel_rfl) (by kernel_rfl) (fun _ _ _ h => h) (Or.inl ⟨by rfl, ?_⟩) (by assumption) ?_
    rotate_left 1
    · (intro W hSW; (try dsimp only at hSW); first | (go_simp; done) | (go_simp; with_reducible rfl))
    try simp only [Act.put, List.setIfInBounds_toArray, List.set_cons_zero, List.set_cons_succ]
    refine wpAnyH_take (i := 5) (oi := { dst := some 179, op := Op.call { callee := Callee.builtin Builtin.len, args := #[Operand.tmp 178], argTypes := #[33] }, type := 3, pos := "law.go:80", after := #[{ on := 4, ground := Ground.data }, { on := 1, ground := Ground.guard }], guard := some (1, true) }) (v := ?_) rfl (by kernel_rfl) (by kernel_rfl) (by kernel_rfl) (fun _ _ _ h => h) (Or.inl ⟨by rfl, ?_⟩) (by assumption) ?_
    rotate_left 1
    · (intro W hSW; (try dsimp only at hSW); first | (go_simp; done) | (go_simp; with_reducible rfl))
    try simp only [Act.put, List.setIfInBounds_toArray, List.set_cons_zero, List.set_cons_succ]
    refine wpAnyH_take (i := 6) (oi := { dst := some 180, op := Op.move (Operand.tmp 8), type := 33, pos := "law.go:80", after := #[{ on := 1, ground := Ground.guard }], guard := some (1, true) }) (v := ?_) rfl (by kernel_rfl) (by kernel_rfl) (by kernel_rfl) (fun _ _ _ h => h) (Or.inl ⟨by rfl, ?_⟩) (by assumption) ?_
    rotate_left 1
    · (intro W hSW; (try dsimp only at hSW); first | (go_simp; done) | (go_simp; with_reducible rfl))
    try simp only [Act.put, List.setIfInBounds_toArray, List.set_cons_zero, List.set_cons_succ]
    refine wpAnyH_take (i := 7) (oi := { dst := some 181, op := Op.call { callee := Callee.builtin Builtin.len, args := #[Operand.tmp 180], argTypes := #[33] }, type := 3, pos := "law.go:80", after := #[{ on := 6, ground := Ground.data }, { on := 1, ground := Ground.guard }], guard := some (1, true) }) (v := ?_) rfl (by kernel_rfl) (by kernel_rfl) (by kernel_rfl) (fun _ _ _ h => h) (Or.inl ⟨by rfl, ?_⟩) (by assumption) ?_
    rotate_left 1
    · (intro W hSW; (try dsimp only at hSW); first | (go_simp; done) | (go_simp; with_reducible rfl))
    try simp only [Act.put, List.setIfInBounds_toArray, List.set_cons_zero, List.set_cons_succ]
    refine wpAnyH_take (i := 8) (oi := { dst := some 182, op := Op.binOp BinOp.add 3 (Operand.tmp 179) (Operand.tmp 181) 3, type := 3, pos := "law.go:80", after := #[{ on := 5, ground := Ground.data }, { on := 7, ground := Ground.data }, { on := 1, ground := Ground.guard }], guard := some (1, true) }) (v := ?_) rfl (by kernel_rfl) (by kernel_rfl) (by kernel_rfl) (fun _ _ _ h => h) (Or.inl ⟨by rfl, ?_⟩) (by assumption) ?_
    rotate_left 1
    · (intro W hSW; (try dsimp only at hSW); first | (go_simp; done) | (go_simp; with_reducible rfl))
    try simp only [Act.put, List.setIfInBounds_toArray, List.set_cons_zero, List.set_cons_succ]
    refine wpAnyH_take (i := 9) (oi := { dst := some 183, op := Op.binOp BinOp.eql 3 (Operand.tmp 177) (Operand.tmp 182) 3, type := 4, pos := "law.go:80", after := #[{ on := 3, ground := Ground.data }, { on := 8, ground := Ground.data }, { on := 1, ground := Ground.guard }], guard := some (1, true) }) (v := ?_) rfl (by kernel_rfl) (by kernel_rfl) (by kernel_rfl) (fun _ _ _ h => h) (Or.inl ⟨by rfl, ?_⟩) (by assumption) ?_
    rotate_left 1
    · (intro W hSW; (try dsimp only at hSW); first | (go_simp; done) | (go_simp; with_reducible rfl))
    try simp only [Act.put, List.setIfInBounds_toArray, List.set_cons_zero, List.set_cons_succ]
    refine wpAnyH_take (i := 10) (oi := { dst := some 184, op := Op.pick (Operand.tmp 175) (Operand.tmp 183) (Operand.const (Value.bool false)), type := 4, pos := "law.go:80", after := #[{ on := 1, ground := Ground.data }, { on := 9, ground := Ground.data }], guard := none }) (v := ?_) rfl (by kernel_rfl) (by kernel_rfl) (by kernel_rfl) (fun _ _ _ h => h) (Or.inl ⟨by rfl, ?_⟩) (by assumption) ?_
    rotate_left 1
    · (intro W hSW; (try dsimp only at hSW); first | (go_simp; done) | (go_simp; with_reducible rfl))
    try simp only [Act.put, List.setIfInBounds_toArray, List.set_cons_zero, List.set_cons_succ]
    refine wpAnyH_take (i := 11) (oi := { dst := some 185, op := Op.move (Operand.tmp 184), type := 4, pos := "law.go:80", after := #[{ on := 10, ground := Ground.data }, { on := 1, ground := Ground.chain }], guard := none }) (v := ?_) rfl (by kernel_rfl) (by kernel_rfl) (by kernel_rfl) (fun _ _ _ h => h) (Or.inl ⟨by rfl, ?_⟩) (by assumption) ?_
    rotate_left 1
    · (intro W hSW; (try dsimp only at hSW); first | (go_simp; done) | (go_simp; with_reducible rfl))
    try simp only [Act.put, List.setIfInBounds_toArray, List.set_cons_zero, List.set_cons_succ]
    refine wpAnyH_take (i := 12) (oi := { dst := some 186, op := Op.load 32 (Operand.tmp 23), type := 32, pos := "law.go:80", after := #[{ on := 11, ground := Ground.guard }], guard := some (11, true) }) (v := ?_) rfl (by kernel_rfl) (by kernel_rfl) (by kernel_rfl) (fun _ _ _ h => h) (Or.inl ⟨by rfl, ?_⟩) (by assumption) ?_
    rotate_left 1
    · (intro W hSW; (try dsimp only at hSW); first | (go_simp; done) | (go_simp; with_reducible rfl))
    try simp only [Act.put, List.setIfInBounds_toArray, List.set_cons_zero, List.set_cons_succ]
    refine wpAnyH_take (i := 13) (oi := { dst := some 187, op := Op.move (Operand.tmp 24), type := 33, pos := "law.go:80", after := #[{ on := 11, ground := Ground.guard }], guard := some (11, true) }) (v := ?_) rfl (by kernel_rfl) (by kernel_rfl) (by kernel_rfl) (fun _ _ _ h => h) (Or.inl ⟨by rfl, ?_⟩) (by assumption) ?_
    rotate_left 1
    · (intro W hSW; (try dsimp only at hSW); first | (go_simp; done) | (go_simp; with_reducible rfl))
    try simp only [Act.put, List.setIfInBounds_toArray, List.set_cons_zero, List.set_cons_succ]
    refine wpAnyH_take (i := 14) (oi := { dst := some 188, op := Op.fieldAddr 27 (Operand.tmp 2) 3, type := 0, pos := "law.go:80", after := #[{ on := 11, ground := Ground.guard }], guard := some (11, true) }) (v := ?_) rfl (by kernel_rfl) (by kernel_rfl) (by kernel_rfl) (fun _ _ _ h => h) (Or.inl ⟨by rfl, ?_⟩) (by assumption) ?_
    rotate_left 1
    · (intro W hSW; (try dsimp only at hSW); first | (go_simp; done) | (go_simp; with_reducible rfl))
    try simp only [Act.put, List.setIfInBounds_toArray, List.set_cons_zero, List.set_cons_succ]
    refine wpAnyH_take (i := 15) (oi := { dst := some 189, op := Op.load 24 (Operand.tmp 188), type := 24, pos := "law.go:80", after := #[{ on := 14, ground := Ground.data }, { on := 11, ground := Ground.guard }], guard := some (11, true) }) (v := ?_) rfl (by kernel_rfl) (by kernel_rfl) (by kernel_rfl) (fun _ _ _ h => h) (Or.inl ⟨by rfl, ?_⟩) (by assumption) ?_
    rotate_left 1
    · (intro W hSW; (try dsimp only at hSW); first | (go_simp; done) | (go_simp; with_reducible rfl))
    try simp only [Act.put, List.setIfInBounds_toArray, List.set_cons_zero, List.set_cons_succ]
    refine wpAnyH_take (i := 16) (oi := { dst := some 190, op := Op.move (Operand.tmp 9), type := 3, pos := "law.go:80", after := #[{ on := 11, ground := Ground.guard }], guard := some (11, true) }) (v := ?_) rfl (by kernel_rfl) (by kernel_rfl) (by kernel_rfl) (fun _ _ _ h => h) (Or.inl ⟨by rfl, ?_⟩) (by assumption) ?_
    rotate_left 1
    · (intro W hSW; (try dsimp only at hSW); first | (go_simp; done) | (go_simp; with_reducible rfl))
    try simp only [Act.put, List.setIfInBounds_toArray, List.set_cons_zero, List.set_cons_succ]
    refine wpAnyH_take (i := 17) (oi := { dst := some 191, op := Op.move (Operand.tmp 10), type := 3, pos := "law.go:80", after := #[{ on := 11, ground := Ground.guard }], guard := some (11, true) }) (v := ?_) rfl (by kernel_rfl) (by kernel_rfl) (by kernel_rfl) (fun _ _ _ h => h) (Or.inl ⟨by rfl, ?_⟩) (by assumption) ?_
    rotate_left 1
    · (intro W hSW; (try dsimp only at hSW); first | (go_simp; done) | (go_simp; with_reducible rfl))
    try simp only [Act.put, List.setIfInBounds_toArray, List.set_cons_zero, List.set_cons_succ]
    refine wpAnyH_take (i := 18) (oi := { dst := some 192, op := Op.binOp BinOp.add 3 (Operand.tmp 190) (Operand.tmp 191) 3, type := 3, pos := "law.go:80", after := #[{ on := 16, ground := Ground.data }, { on := 17, ground := Ground.data }, { on := 11, ground := Ground.guard }], guard := some (11, true) }) (v := ?_) rfl (by kernel_rfl) (by kernel_rfl) (by kernel_rfl) (fun _ _ _ h => h) (Or.inl ⟨by rfl, ?_⟩) (by assumption) ?_
    rotate_left 1
    · (intro W hSW; (try dsimp only at hSW); first | (go_simp; done) | (go_simp; with_reducible rfl))
    try simp only [Act.put, List.setIfInBounds_toArray, List.set_cons_zero, List.set_cons_succ]
    refine wpAnyH_ready (rs := [19]) (by kernel_rfl) (by simp) ?_
    refine (AllReadyH.cons (o := { dst := some 193, op := Op.call { callee := Callee.value (Operand.func 16), args := #[Operand.tmp 186, Operand.tmp 187, Operand.tmp 189, Operand.tmp 192], argTypes := #[32, 33, 24, 3] }, type := 4, pos := "law.go:80", after := #[{ on := 12, ground := Ground.data }, { on := 13, ground := Ground.data }, { on := 15, ground := Ground.data }, { on := 18, ground := Ground.data }, { on := 11, ground := Ground.chain }, { on := 11, ground := Ground.guard }], guard := some (11, true) }) rfl (fun K hK => ?_) AllReadyH.nil)
    rw [if_pos (by rfl)]
    go_simp
    go_at_call 16
    refine (unary_n LX.out.2.2.2.2 HNV.out DX.out.2.2.2.2.un GXs.out.2.2.2.2.2.1.1 (by have := GXs.out.2.2.2.2.2.1.2; omega) (by have := LX.out.2.2.2.2; have := HB.out; have := HNM.out; omega) HV20.out (ok_le (by have := GXs.out.2.2.2.2.2.1.2; omega) DX.out.2.2.2.2.2.2) (by have := HNM.out; omega) ((HJ.out.grown hdr).2.2) (RlJ.out.grown hdr) (HI.out.v.grown hdr)).mono ?_
    rintro e wc1 ⟨rfl, gc1⟩
    have hgr1 := World.grownBy.trans hdr gc1
    go_wp2_with fail
    refine hK.out _ _ (HS.out _ hgr1) (fun hHeld => ?_)
    clear hK K
    try simp only [Act.put, List.setIfInBounds_toArray, List.set_cons_zero, List.set_cons_succ]
    refine wpAnyH_take (i := 20) (oi := { dst := some 194, op := Op.pick (Operand.tmp 185) (Operand.tmp 193) (Operand.const (Value.bool false)), type := 4, pos := "law.go:80", after := #[{ on := 11, ground := Ground.data }, { on := 19, ground := Ground.data }], guard := none }) (v := ?_) rfl (by kernel_rfl) (by kernel_rfl) (by kernel_rfl) (fun _ _ _ h => h) (Or.inl ⟨by rfl, ?_⟩) (by assumption) ?_
    rotate_left 1
    · (intro W hSW; (try dsimp only at hSW); first | (go_simp; done) | (go_simp; with_reducible rfl))
    try simp only [Act.put, List.setIfInBounds_toArray, List.set_cons_zero, List.set_cons_succ]
    refine wpAnyH_take (i := 21) (oi := { dst := some 195, op := Op.move (Operand.tmp 194), type := 4, pos := "law.go:80", after := #[{ on := 20, ground := Ground.data }, { on := 19, ground := Ground.chain }], guard := none }) (v := ?_) rfl (by kernel_rfl) (by kernel_rfl) (by kernel_rfl) (fun _ _ _ h => h) (Or.inl ⟨by rfl, ?_⟩) (by assumption) ?_
    rotate_left 1
    · (intro W hSW; (try dsimp only at hSW); first | (go_simp; done) | (go_simp; with_reducible rfl))
    try simp only [Act.put, List.setIfInBounds_toArray, List.set_cons_zero, List.set_cons_succ]
    refine wpAnyH_take (i := 22) (oi := { dst := some 196, op := Op.load 32 (Operand.tmp 25), type := 32, pos := "law.go:80", after := #[{ on := 21, ground := Ground.guard }], guard := some (21, true) }) (v := ?_) rfl (by kernel_rfl) (by kernel_rfl) (by kernel_rfl) (fun _ _ _ h => h) (Or.inl ⟨by rfl, ?_⟩) (by assumption) ?_
    rotate_left 1
    · (intro W hSW; (try dsimp only at hSW); first | (go_simp; done) | (go_simp; with_reducible rfl))
    try simp only [Act.put, List.setIfInBounds_toArray, List.set_cons_zero, List.set_cons_succ]
    refine wpAnyH_take (i := 23) (oi := { dst := some 197, op := Op.fieldAddr 27 (Operand.tmp 2) 3, type := 0, pos := "law.go:80", after := #[{ on := 21, ground := Ground.guard }], guard := some (21, true) }) (v := ?_) rfl (by kernel_rfl) (by kernel_rfl) (by kernel_rfl) (fun _ _ _ h => h) (Or.inl ⟨by rfl, ?_⟩) (by assumption) ?_
    rotate_left 1
    · (intro W hSW; (try dsimp only at hSW); first | (go_simp; done) | (go_simp; with_reducible rfl))
    try simp only [Act.put, List.setIfInBounds_toArray, List.set_cons_zero, List.set_cons_succ]
    refine wpAnyH_take (i := 24) (oi := { dst := some 198, op := Op.load 24 (Operand.tmp 197), type := 24, pos := "law.go:80", after := #[{ on := 23, ground := Ground.data }, { on := 21, ground := Ground.guard }], guard := some (21, true) }) (v := ?_) rfl (by kernel_rfl) (by kernel_rfl) (by kernel_rfl) (fun _ _ _ h => h) (Or.inl ⟨by rfl, ?_⟩) (by assumption) ?_
    rotate_left 1
    · (intro W hSW; (try dsimp only at hSW); first | (go_simp; done) | (go_simp; with_reducible rfl))
    try simp only [Act.put, List.setIfInBounds_toArray, List.set_cons_zero, List.set_cons_succ]
    refine wpAnyH_take (i := 25) (oi := { dst := some 199, op := Op.move (Operand.tmp 26), type := 3, pos := "law.go:80", after := #[{ on := 21, ground := Ground.guard }], guard := some (21, true) }) (v := ?_) rfl (by kernel_rfl) (by kernel_rfl) (by kernel_rfl) (fun _ _ _ h => h) (Or.inl ⟨by rfl, ?_⟩) (by assumption) ?_
    rotate_left 1
    · (intro W hSW; (try dsimp only at hSW); first | (go_simp; done) | (go_simp; with_reducible rfl))
    try simp only [Act.put, List.setIfInBounds_toArray, List.set_cons_zero, List.set_cons_succ]
    refine wpAnyH_take (i := 27) (oi := { dst := some 201, op := Op.move (Operand.tmp 9), type := 3, pos := "law.go:80", after := #[{ on := 21, ground := Ground.guard }], guard := some (21, true) }) (v := ?_) rfl (by kernel_rfl) (by kernel_rfl) (by kernel_rfl) (fun _ _ _ h => h) (Or.inl ⟨by rfl, ?_⟩) (by assumption) ?_
    rotate_left 1
    · (intro W hSW; (try dsimp only at hSW); first | (go_simp; done) | (go_simp; with_reducible rfl))
    try simp only [Act.put, List.setIfInBounds_toArray, List.set_cons_zero, List.set_cons_succ]
    refine wpAnyH_take (i := 28) (oi := { dst := some 202, op := Op.move (Operand.tmp 10), type := 3, pos := "law.go:80", after := #[{ on := 21, ground := Ground.guard }], guard := some (21, true) }) (v := ?_) rfl (by kernel_rfl) (by kernel_rfl) (by kernel_rfl) (fun _ _ _ h => h) (Or.inl ⟨by rfl, ?_⟩) (by assumption) ?_
    rotate_left 1
    · (intro W hSW; (try dsimp only at hSW); first | (go_simp; done) | (go_simp; with_reducible rfl))
    try simp only [Act.put, List.setIfInBounds_toArray, List.set_cons_zero, List.set_cons_succ]
    refine wpAnyH_take (i := 29) (oi := { dst := some 203, op := Op.fieldAddr 27 (Operand.tmp 2) 4, type := 0, pos := "law.go:80", after := #[{ on := 21, ground := Ground.guard }], guard := some (21, true) }) (v := ?_) rfl (by kernel_rfl) (by kernel_rfl) (by kernel_rfl) (fun _ _ _ h => h) (Or.inl ⟨by rfl, ?_⟩) (by assumption) ?_
    rotate_left 1
    · (intro W hSW; (try dsimp only at hSW); first | (go_simp; done) | (go_simp; with_reducible rfl))
    try simp only [Act.put, List.setIfInBounds_toArray, List.set_cons_zero, List.set_cons_succ]
    refine wpAnyH_take (i := 30) (oi := { dst := some 204, op := Op.load 25 (Operand.tmp 203), type := 25, pos := "law.go:80", after := #[{ on := 29, ground := Ground.data }, { on := 21, ground := Ground.guard }], guard := some (21, true) }) (v := ?_) rfl (by kernel_rfl) (by kernel_rfl) (by kernel_rfl) (fun _ _ _ h => h) (Or.inl ⟨by rfl, ?_⟩) (by assumption) ?_
    rotate_left 1
    · (intro W hSW; (try dsimp only at hSW); first | (go_simp; done) | (go_simp; with_reducible rfl))
    try simp only [Act.put, List.setIfInBounds_toArray, List.set_cons_zero, List.set_cons_succ]
    refine wpAnyH_take (i := 31) (oi := { dst := some 205, op := Op.convert 25 3 (Operand.tmp 204), type := 3, pos := "law.go:80", after := #[{ on := 30, ground := Ground.data }, { on := 21, ground := Ground.guard }], guard := some (21, true) }) (v := ?_) rfl (by kernel_rfl) (by kernel_rfl) (by kernel_rfl) (fun _ _ _ h => h) (Or.inl ⟨by rfl, ?_⟩) (by assumption) ?_
    rotate_left 1
    · (intro W hSW; (try dsimp only at hSW); first | (go_simp; done) | (go_simp; with_reducible rfl))
    try simp only [Act.put, List.setIfInBounds_toArray, List.set_cons_zero, List.set_cons_succ]
    refine wpAnyH_take (i := 32) (oi := { dst := some 206, op := Op.binOp BinOp.add 3 (Operand.tmp 202) (Operand.tmp 205) 3, type := 3, pos := "law.go:80", after := #[{ on := 28, ground := Ground.data }, { on := 31, ground := Ground.data }, { on := 21, ground := Ground.guard }], guard := some (21, true) }) (v := ?_) rfl (by kernel_rfl) (by kernel_rfl) (by kernel_rfl) (fun _ _ _ h => h) (Or.inl ⟨by rfl, ?_⟩) (by assumption) ?_
    rotate_left 1
    · (intro W hSW; (try dsimp only at hSW); first | (go_simp; done) | (go_simp; with_reducible rfl))
    try simp only [Act.put, List.setIfInBounds_toArray, List.set_cons_zero, List.set_cons_succ]
    refine wpAnyH_take (i := 33) (oi := { dst := some 207, op := Op.binOp BinOp.lss 3 (Operand.tmp 201) (Operand.tmp 206) 3, type := 4, pos := "law.go:80", after := #[{ on := 27, ground := Ground.data }, { on := 32, ground := Ground.data }, { on := 21, ground := Ground.guard }], guard := some (21, true) }) (v := ?_) rfl (by kernel_rfl) (by kernel_rfl) (by kernel_rfl) (fun _ _ _ h => h) (Or.inl ⟨by rfl, ?_⟩) (by assumption) ?_
    rotate_left 1
    · (intro W hSW; (try dsimp only at hSW); first | (go_simp; done) | (go_simp; with_reducible rfl))
    try simp only [Act.put, List.setIfInBounds_toArray, List.set_cons_zero, List.set_cons_succ]
    refine wpAnyH_ready (rs := [26]) (by kernel_rfl) (by simp) ?_
    refine (AllReadyH.cons (o := { dst := some 200, op := Op.call { callee := Callee.value (Operand.func 18), args := #[Operand.tmp 196, Operand.tmp 198, Operand.tmp 199], argTypes := #[32, 24, 3] }, type := 4, pos := "law.go:80", after := #[{ on := 22, ground := Ground.data }, { on := 24, ground := Ground.data }, { on := 25, ground := Ground.data }, { on := 21, ground := Ground.chain }, { on := 21, ground := Ground.guard }], guard := some (21, true) }) rfl (fun K hK => ?_) AllReadyH.nil)
    rw [if_pos (by rfl)]
    go_simp
    go_at_call 18
    refine (reval_n gL vals lL lv HNV.out FL.out (by have := GXs.out.2.2.2.2.2.2.2.1; omega) HV20.out GXs.out.2.2.2.2.2.2.1 GXs.out.2.2.2.2.2.2.2.2 ((HLb.out.grown hgr1).2.2) (HI.out.v.grown hgr1)).mono ?_
    rintro e wc2 ⟨rfl, gc2⟩
    have hgr2 := World.grownBy.trans hgr1 gc2
    go_wp2_with fail
    refine hK.out _ _ (HS.out _ hgr2) (fun hHeld => ?_)
    clear hK K
    try simp only [Act.put, List.setIfInBounds_toArray, List.set_cons_zero, List.set_cons_succ]
    refine wpAnyH_take (i := 34) (oi := { dst := some 208, op := Op.binOp BinOp.eql 4 (Operand.tmp 200) (Operand.tmp 207) 4, type := 4, pos := "law.go:80", after := #[{ on := 26, ground := Ground.data }, { on := 33, ground := Ground.data }, { on := 21, ground := Ground.guard }], guard := some (21, true) }) (v := ?_) rfl (by kernel_rfl) (by kernel_rfl) (by kernel_rfl) (fun _ _ _ h => h) (Or.inl ⟨by rfl, ?_⟩) (by assumption) ?_
    rotate_left 1
    · (intro W hSW; (try dsimp only at hSW); first | (go_simp; done) | (go_simp; with_reducible rfl))
    try simp only [Act.put, List.setIfInBounds_toArray, List.set_cons_zero, List.set_cons_succ]
    refine wpAnyH_take (i := 35) (oi := { dst := some 209, op := Op.pick (Operand.tmp 195) (Operand.tmp 208) (Operand.const (Value.bool false)), type := 4, pos := "law.go:80", after := #[{ on := 21, ground := Ground.data }, { on := 34, ground := Ground.data }], guard := none }) (v := ?_) rfl (by kernel_rfl) (by kernel_rfl) (by kernel_rfl) (fun _ _ _ h => h) (Or.inl ⟨by rfl, ?_⟩) (by assumption) ?_
    rotate_left 1
    · (intro W hSW; (try dsimp only at hSW); first | (go_simp; done) | (go_simp; with_reducible rfl))
    try simp only [Act.put, List.setIfInBounds_toArray, List.set_cons_zero, List.set_cons_succ]
    refine wpAnyH_take (i := 36) (oi := { dst := some 210, op := Op.move (Operand.tmp 209), type := 4, pos := "law.go:80", after := #[{ on := 35, ground := Ground.data }, { on := 26, ground := Ground.chain }], guard := none }) (v := ?_) rfl (by kernel_rfl) (by kernel_rfl) (by kernel_rfl) (fun _ _ _ h => h) (Or.inl ⟨by rfl, ?_⟩) (by assumption) ?_
    rotate_left 1
    · (intro W hSW; (try dsimp only at hSW); first | (go_simp; done) | (go_simp; with_reducible rfl))
    try simp only [Act.put, List.setIfInBounds_toArray, List.set_cons_zero, List.set_cons_succ]
    refine wpAnyH_take (i := 37) (oi := { dst := some 211, op := Op.load 32 (Operand.tmp 6), type := 32, pos := "law.go:80", after := #[{ on := 36, ground := Ground.guard }], guard := some (36, true) }) (v := ?_) rfl (by kernel_rfl) (by kernel_rfl) (by kernel_rfl) (fun _ _ _ h => h) (Or.inl ⟨by rfl, ?_⟩) (by assumption) ?_
    rotate_left 1
    · (intro W hSW; (try dsimp only at hSW); first | (go_simp; done) | (go_simp; with_reducible rfl))
    try simp only [Act.put, List.setIfInBounds_toArray, List.set_cons_zero, List.set_cons_succ]
    refine wpAnyH_take (i := 38) (oi := { dst := some 212, op := Op.move (Operand.tmp 7), type := 33, pos := "law.go:80", after := #[{ on := 36, ground := Ground.guard }], guard := some (36, true) }) (v := ?_) rfl (by kernel_rfl) (by kernel_rfl) (by kernel_rfl) (fun _ _ _ h => h) (Or.inl ⟨by rfl, ?_⟩) (by assumption) ?_
    rotate_left 1
    · (intro W hSW; (try dsimp only at hSW); first | (go_simp; done) | (go_simp; with_reducible rfl))
    try simp only [Act.put, List.setIfInBounds_toArray, List.set_cons_zero, List.set_cons_succ]
    refine wpAnyH_take (i := 39) (oi := { dst := some 213, op := Op.fieldAddr 27 (Operand.tmp 2) 3, type := 0, pos := "law.go:80", after := #[{ on := 36, ground := Ground.guard }], guard := some (36, true) }) (v := ?_) rfl (by kernel_rfl) (by kernel_rfl) (by kernel_rfl) (fun _ _ _ h => h) (Or.inl ⟨by rfl, ?_⟩) (by assumption) ?_
    rotate_left 1
    · (intro W hSW; (try dsimp only at hSW); first | (go_simp; done) | (go_simp; with_reducible rfl))
    try simp only [Act.put, List.setIfInBounds_toArray, List.set_cons_zero, List.set_cons_succ]
    refine wpAnyH_take (i := 40) (oi := { dst := some 214, op := Op.load 24 (Operand.tmp 213), type := 24, pos := "law.go:80", after := #[{ on := 39, ground := Ground.data }, { on := 36, ground := Ground.guard }], guard := some (36, true) }) (v := ?_) rfl (by kernel_rfl) (by kernel_rfl) (by kernel_rfl) (fun _ _ _ h => h) (Or.inl ⟨by rfl, ?_⟩) (by assumption) ?_
    rotate_left 1
    · (intro W hSW; (try dsimp only at hSW); first | (go_simp; done) | (go_simp; with_reducible rfl))
    try simp only [Act.put, List.setIfInBounds_toArray, List.set_cons_zero, List.set_cons_succ]
    refine wpAnyH_take (i := 42) (oi := { dst := some 216, op := Op.move (Operand.tmp 9), type := 3, pos := "law.go:80", after := #[{ on := 36, ground := Ground.guard }], guard := some (36, true) }) (v := ?_) rfl (by kernel_rfl) (by kernel_rfl) (by kernel_rfl) (fun _ _ _ h => h) (Or.inl ⟨by rfl, ?_⟩) (by assumption) ?_
    rotate_left 1
    · (intro W hSW; (try dsimp only at hSW); first | (go_simp; done) | (go_simp; with_reducible rfl))
    try simp only [Act.put, List.setIfInBounds_toArray, List.set_cons_zero, List.set_cons_succ]
    refine wpAnyH_ready (rs := [41]) (by kernel_rfl) (by simp) ?_
    refine (AllReadyH.cons (o := { dst := some 215, op := Op.call { callee := Callee.value (Operand.func 22), args := #[Operand.tmp 211, Operand.tmp 212, Operand.tmp 214], argTypes := #[32, 33, 24] }, type := 3, pos := "law.go:80", after := #[{ on := 37, ground := Ground.data }, { on := 38, ground := Ground.data }, { on := 40, ground := Ground.data }, { on := 36, ground := Ground.chain }, { on := 36, ground := Ground.guard }], guard := some (36, true) }) rfl (fun K hK => ?_) AllReadyH.nil)
    rw [if_pos (by rfl)]
    go_simp
    go_at_call 22
    refine (value_n NA.out HNV.out NE.out.1 HGD.out (by have := HL.out; omega) (by have := NA.out; have := HB.out; have := HNM.out; omega) HV20.out (ok_le (by have := HL.out; omega) OA.out) ((Hc.out.grown hgr2).2.2) (Rla.out.grown hgr2) (HI.out.v.grown hgr2)).mono ?_
    rintro e wc3 ⟨rfl, gc3⟩
    have hgr3 := World.grownBy.trans hgr2 gc3
    go_wp2_with fail
    refine hK.out _ _ (HS.out _ hgr3) (fun hHeld => ?_)
    clear hK K
    try simp only [Act.put, List.setIfInBounds_toArray, List.set_cons_zero, List.set_cons_succ]
    refine wpAnyH_take (i := 43) (oi := { dst := some 217, op := Op.binOp BinOp.eql 3 (Operand.tmp 215) (Operand.tmp 216) 3, type := 4, pos := "law.go:80", after := #[{ on := 41, ground := Ground.data }, { on := 42, ground := Ground.data }, { on := 36, ground := Ground.guard }], guard := some (36, true) }) (v := ?_) rfl (by kernel_rfl) (by kernel_rfl) (by kernel_rfl) (fun _ _ _ h => h) (Or.inl ⟨by rfl, ?_⟩) (by assumption) ?_
    rotate_left 1
    · (intro W hSW; (try dsimp only at hSW); first | (go_simp; done) | (go_simp; with_reducible rfl))
    try simp only [Act.put, List.setIfInBounds_toArray, List.set_cons_zero, List.set_cons_succ]
    refine wpAnyH_take (i := 44) (oi := { dst := some 218, op := Op.pick (Operand.tmp 210) (Operand.tmp 217) (Operand.const (Value.bool false)), type := 4, pos := "law.go:80", after := #[{ on := 36, ground := Ground.data }, { on := 43, ground := Ground.data }], guard := none }) (v := ?_) rfl (by kernel_rfl) (by kernel_rfl) (by kernel_rfl) (fun _ _ _ h => h) (Or.inl ⟨by rfl, ?_⟩) (by assumption) ?_
    rotate_left 1
    · (intro W hSW; (try dsimp only at hSW); first | (go_simp; done) | (go_simp; with_reducible rfl))
    try simp only [Act.put, List.setIfInBounds_toArray, List.set_cons_zero, List.set_cons_succ]
    refine wpAnyH_take (i := 45) (oi := { dst := some 219, op := Op.move (Operand.tmp 218), type := 4, pos := "law.go:80", after := #[{ on := 44, ground := Ground.data }, { on := 41, ground := Ground.chain }], guard := none }) (v := ?_) rfl (by kernel_rfl) (by kernel_rfl) (by kernel_rfl) (fun _ _ _ h => h) (Or.inl ⟨by rfl, ?_⟩) (by assumption) ?_
    rotate_left 1
    · (intro W hSW; (try dsimp only at hSW); first | (go_simp; done) | (go_simp; with_reducible rfl))
    try simp only [Act.put, List.setIfInBounds_toArray, List.set_cons_zero, List.set_cons_succ]
    refine wpAnyH_take (i := 46) (oi := { dst := some 220, op := Op.load 32 (Operand.tmp 21), type := 32, pos := "law.go:80", after := #[{ on := 45, ground := Ground.guard }], guard := some (45, true) }) (v := ?_) rfl (by kernel_rfl) (by kernel_rfl) (by kernel_rfl) (fun _ _ _ h => h) (Or.inl ⟨by rfl, ?_⟩) (by assumption) ?_
    rotate_left 1
    · (intro W hSW; (try dsimp only at hSW); first | (go_simp; done) | (go_simp; with_reducible rfl))
    try simp only [Act.put, List.setIfInBounds_toArray, List.set_cons_zero, List.set_cons_succ]
    refine wpAnyH_take (i := 47) (oi := { dst := some 221, op := Op.move (Operand.tmp 22), type := 33, pos := "law.go:80", after := #[{ on := 45, ground := Ground.guard }], guard := some (45, true) }) (v := ?_) rfl (by kernel_rfl) (by kernel_rfl) (by kernel_rfl) (fun _ _ _ h => h) (Or.inl ⟨by rfl, ?_⟩) (by assumption) ?_
    rotate_left 1
    · (intro W hSW; (try dsimp only at hSW); first | (go_simp; done) | (go_simp; with_reducible rfl))
    try simp only [Act.put, List.setIfInBounds_toArray, List.set_cons_zero, List.set_cons_succ]
    refine wpAnyH_take (i := 48) (oi := { dst := some 222, op := Op.fieldAddr 27 (Operand.tmp 2) 3, type := 0, pos := "law.go:80", after := #[{ on := 45, ground := Ground.guard }], guard := some (45, true) }) (v := ?_) rfl (by kernel_rfl) (by kernel_rfl) (by kernel_rfl) (fun _ _ _ h => h) (Or.inl ⟨by rfl, ?_⟩) (by assumption) ?_
    rotate_left 1
    · (intro W hSW; (try dsimp only at hSW); first | (go_simp; done) | (go_simp; with_reducible rfl))
    try simp only [Act.put, List.setIfInBounds_toArray, List.set_cons_zero, List.set_cons_succ]
    refine wpAnyH_take (i := 49) (oi := { dst := some 223, op := Op.load 24 (Operand.tmp 222), type := 24, pos := "law.go:80", after := #[{ on := 48, ground := Ground.data }, { on := 45, ground := Ground.guard }], guard := some (45, true) }) (v := ?_) rfl (by kernel_rfl) (by kernel_rfl) (by kernel_rfl) (fun _ _ _ h => h) (Or.inl ⟨by rfl, ?_⟩) (by assumption) ?_
    rotate_left 1
    · (intro W hSW; (try dsimp only at hSW); first | (go_simp; done) | (go_simp; with_reducible rfl))
    try simp only [Act.put, List.setIfInBounds_toArray, List.set_cons_zero, List.set_cons_succ]
    refine wpAnyH_take (i := 51) (oi := { dst := some 225, op := Op.move (Operand.tmp 10), type := 3, pos := "law.go:80", after := #[{ on := 45, ground := Ground.guard }], guard := some (45, true) }) (v := ?_) rfl (by kernel_rfl) (by kernel_rfl) (by kernel_rfl) (fun _ _ _ h => h) (Or.inl ⟨by rfl, ?_⟩) (by assumption) ?_
    rotate_left 1
    · (intro W hSW; (try dsimp only at hSW); first | (go_simp; done) | (go_simp; with_reducible rfl))
    try simp only [Act.put, List.setIfInBounds_toArray, List.set_cons_zero, List.set_cons_succ]
    refine wpAnyH_ready (rs := [50]) (by kernel_rfl) (by simp) ?_
    refine (AllReadyH.cons (o := { dst := some 224, op := Op.call { callee := Callee.value (Operand.func 22), args := #[Operand.tmp 220, Operand.tmp 221, Operand.tmp 223], argTypes := #[32, 33, 24] }, type := 3, pos := "law.go:80", after := #[{ on := 46, ground := Ground.data }, { on := 47, ground := Ground.data }, { on := 49, ground := Ground.data }, { on := 45, ground := Ground.chain }, { on := 45, ground := Ground.guard }], guard := some (45, true) }) rfl (fun K hK => ?_) AllReadyH.nil)
    rw [if_pos (by rfl)]
    go_simp
    go_at_call 22
    refine (value_n LX.out.2.2.2.1 HNV.out DX.out.2.2.2.1.numE GXs.out.2.2.2.2.1.1 (by have := GXs.out.2.2.2.2.1.2; omega) (by have := LX.out.2.2.2.1; have := HB.out; have := HNM.out; omega) HV20.out (ok_le (by have := GXs.out.2.2.2.2.1.2; omega) DX.out.2.2.2.1.2.2) ((HV.out.grown hgr3).2.2) (RlV.out.grown hgr3) (HI.out.v.grown hgr3)).mono ?_
    rintro e wc4 ⟨rfl, gc4⟩
    have hgr4 := World.grownBy.trans hgr3 gc4
    go_wp2_with fail
    refine hK.out _ _ (HS.out _ hgr4) (fun hHeld => ?_)
    clear hK K
    try simp only [Act.put, List.setIfInBounds_toArray, List.set_cons_zero, List.set_cons_succ]
    refine wpAnyH_take (i := 52) (oi := { dst := some 226, op := Op.binOp BinOp.eql 3 (Operand.tmp 224) (Operand.tmp 225) 3, type := 4, pos := "law.go:80", after := #[{ on := 50, ground := Ground.data }, { on := 51, ground := Ground.data }, { on := 45, ground := Ground.guard }], guard := some (45, true) }) (v := ?_) rfl (by kernel_rfl) (by kernel_rfl) (by kernel_rfl) (fun _ _ _ h => h) (Or.inl ⟨by rfl, ?_⟩) (by assumption) ?_
    rotate_left 1
    · (intro W hSW; (try dsimp only at hSW); first | (go_simp; done) | (go_simp; with_reducible rfl))
    try simp only [Act.put, List.setIfInBounds_toArray, List.set_cons_zero, List.set_cons_succ]
    refine wpAnyH_take (i := 53) (oi := { dst := some 227, op := Op.pick (Operand.tmp 219) (Operand.tmp 226) (Operand.const (Value.bool false)), type := 4, pos := "law.go:80", after := #[{ on := 45, ground := Ground.data }, { on := 52, ground := Ground.data }], guard := none }) (v := ?_) rfl (by kernel_rfl) (by kernel_rfl) (by kernel_rfl) (fun _ _ _ h => h) (Or.inl ⟨by rfl, ?_⟩) (by assumption) ?_
    rotate_left 1
    · (intro W hSW; (try dsimp only at hSW); first | (go_simp; done) | (go_simp; with_reducible rfl))
    try simp only [Act.put, List.setIfInBounds_toArray, List.set_cons_zero, List.set_cons_succ]
    refine wpAnyH_take (i := 54) (oi := { dst := some 4, op := Op.assign (Operand.tmp 227), type := 4, pos := "law.go:80", after := #[{ on := 53, ground := Ground.data }, { on := 50, ground := Ground.chain }, { on := 0, ground := Ground.phase }, { on := 1, ground := Ground.phase }, { on := 2, ground := Ground.phase }, { on := 3, ground := Ground.phase }, { on := 4, ground := Ground.phase }, { on := 5, ground := Ground.phase }, { on := 6, ground := Ground.phase }, { on := 7, ground := Ground.phase }, { on := 8, ground := Ground.phase }, { on := 9, ground := Ground.phase }, { on := 10, ground := Ground.phase }, { on := 11, ground := Ground.phase }, { on := 12, ground := Ground.phase }, { on := 13, ground := Ground.phase }, { on := 14, ground := Ground.phase }, { on := 15, ground := Ground.phase }, { on := 16, ground := Ground.phase }, { on := 17, ground := Ground.phase }, { on := 18, ground := Ground.phase }, { on := 19, ground := Ground.phase }, { on := 20, ground := Ground.phase }, { on := 21, ground := Ground.phase }, { on := 22, ground := Ground.phase }, { on := 23, ground := Ground.phase }, { on := 24, ground := Ground.phase }, { on := 25, ground := Ground.phase }, { on := 26, ground := Ground.phase }, { on := 27, ground := Ground.phase }, { on := 28, ground := Ground.phase }, { on := 29, ground := Ground.phase }, { on := 30, ground := Ground.phase }, { on := 31, ground := Ground.phase }, { on := 32, ground := Ground.phase }, { on := 33, ground := Ground.phase }, { on := 34, ground := Ground.phase }, { on := 35, ground := Ground.phase }, { on := 36, ground := Ground.phase }, { on := 37, ground := Ground.phase }, { on := 38, ground := Ground.phase }, { on := 39, ground := Ground.phase }, { on := 40, ground := Ground.phase }, { on := 41, ground := Ground.phase }, { on := 42, ground := Ground.phase }, { on := 43, ground := Ground.phase }, { on := 44, ground := Ground.phase }, { on := 45, ground := Ground.phase }, { on := 46, ground := Ground.phase }, { on := 47, ground := Ground.phase }, { on := 48, ground := Ground.phase }, { on := 49, ground := Ground.phase }, { on := 50, ground := Ground.phase }, { on := 51, ground := Ground.phase }, { on := 52, ground := Ground.phase }, { on := 53, ground := Ground.phase }], guard := none }) (v := ?_) rfl (by kernel_rfl) (by kernel_rfl) (by kernel_rfl) (fun _ _ _ h => h) (Or.inl ⟨by rfl, ?_⟩) (by assumption) ?_
    rotate_left 1
    · (intro W hSW; (try dsimp only at hSW); first | (go_simp; done) | (go_simp; with_reducible rfl))
    try simp only [Act.put, List.setIfInBounds_toArray, List.set_cons_zero, List.set_cons_succ]
    refine wpAnyH_done (by kernel_rfl) ?_ _
    have hEND := hgr4
    clear hHeld
    have HE9 := Lib.hid (World.grownBy.trans HG.out hEND)
    clear hEND
    go_wp2_with fail
    go_ret
    exact ⟨rfl, HE9.out⟩
end Go.Proofs.Ythagoihpppppkaa
