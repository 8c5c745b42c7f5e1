/- The law: sums. -/
import Derived.Test.YthagoihpppppkaaT1
import Derived.Test.YthagoihpppppkaaS4
import Derived.Deep.DeepCutAuto
namespace Go.Proofs.Ythagoihpppppkaa
open Go.RowKit Go.Maps

set_option maxRecDepth 100000 in
set_option maxHeartbeats 4000000 in
theorem sums_calls (l : List Stp) (A B : List Nat) (vals : List Bool) (y : Int) (sa : Option Addr) (sc : Nat) (aa : Option Addr) (ac : Nat) (ba : Option Addr) (bc : Nat) (va : Option Addr) (vc : Nat)  (w : World) (h : RawIn w l A B vals y sa sc aa ac ba bc va vc)  :
    Calls Try.prog 8 #[.agg #[.slice sa l.length sc, .slice aa A.length ac, .slice ba B.length bc, .slice va vals.length vc, .int .i8 y]] w fun e w' => e = .returned (.bool true) ∧ w.grownBy w' none := by
  obtain ⟨nl, hnl⟩ : ∃ n, l.length = n := ⟨_, rfl⟩
  obtain ⟨na, hna⟩ : ∃ n, A.length = n := ⟨_, rfl⟩
  obtain ⟨nb, hnb⟩ : ∃ n, B.length = n := ⟨_, rfl⟩
  obtain ⟨nv, hnv⟩ : ∃ n, vals.length = n := ⟨_, rfl⟩
  have HN := Lib.hid (And.intro hnl (And.intro hna (And.intro hnb hnv)))
  rw [hnl, hna, hnb, hnv]
  have hg1 := World.grownBy_alloc w (.cells #[.slice sa nl sc, .slice aa na ac, .slice ba nb bc, .slice va nv vc, .int .i8 y] 27) none
  have hq := raw_cells w sa nl sc aa na ac ba nb bc va nv vc y
  obtain ⟨W1, hW1⟩ : ∃ z, w.alloc (.cells #[.slice sa nl sc, .slice aa na ac, .slice ba nb bc, .slice va nv vc, .int .i8 y] 27) = z := ⟨_, rfl⟩
  rw [hW1] at hg1 hq
  obtain ⟨bX, hbX⟩ : ∃ z, w.heap.size = z := ⟨_, rfl⟩
  rw [hbX] at hq
  have HX := Lib.hid (show RawB W1 bX sa nl sc aa na ac ba nb bc va nv vc y from ⟨hq.1, hq.2.1, hq.2.2.1, hq.2.2.2.1, hq.2.2.2.2⟩)
  have HI := Lib.hid (h.grown hg1)
  have HG := Lib.hid hg1
  clear h hg1 hq hnl hna hnb hnv
  go_enter Try.func8, Try.ntmps8
  go_wp2_with fail
  clear hW1 hbX
  refine (head_calls _).mono ?_
  rintro e V1 ⟨rfl, g⟩
  replace HX := Lib.hid (HX.out.grown g)
  replace HI := Lib.hid (HI.out.grown g)
  replace HG := Lib.hid (World.grownBy.trans HG.out g)
  clear g
  have x0 := HX.out.c0
  have x1 := HX.out.c1
  have x2 := HX.out.c2
  have x3 := HX.out.c3
  have x4 := HX.out.c4
  go_wp2_with fail
  clear x0 x1 x2 x3 x4
  refine (great_calls _ sa nl sc aa na ac ba nb bc va nv vc y).mono ?_
  rintro e V2 ⟨rfl, g⟩
  replace HX := Lib.hid (HX.out.grown g)
  replace HI := Lib.hid (HI.out.grown g)
  replace HG := Lib.hid (World.grownBy.trans HG.out g)
  clear g
  cases hgr : greatB nl na nb nv with
  | true =>
    go_wp2_with fail
    go_ret
    exact ⟨rfl, HG.out⟩
  | false =>
    have HGN := Lib.hid (great_no hgr)
    clear hgr
    have x0 := HX.out.c0
    have x1 := HX.out.c1
    have x2 := HX.out.c2
    have x3 := HX.out.c3
    have x4 := HX.out.c4
    go_upto_region 4 with fail
    clear x0 x1 x2 x3 x4
    have x0 := HX.out.c0
    have x1 := HX.out.c1
    have x2 := HX.out.c2
    have x3 := HX.out.c3
    have x4 := HX.out.c4
    go_wp2_with fail
    clear x0 x1 x2 x3 x4
    obtain ⟨g0, la, lb, hgd, hgl, hoa, hob, hla, hlb, hic⟩ := inputs_n l A B vals y sa sc aa ac ba bc va vc V2 HI.out HN.out.1 HN.out.2.1 HN.out.2.2.1 ⟨HGN.out.1, HGN.out.2.1, HGN.out.2.2.1⟩
    have HGD := Lib.hid hgd
    have HL := Lib.hid hgl
    have OA := Lib.hid hoa
    have OB := Lib.hid hob
    have NA := Lib.hid hla
    have NB := Lib.hid hlb
    have HIC := Lib.hid hic
    clear hgd hgl hoa hob hla hlb hic
    refine HIC.out.mono ?_
    rintro e V3 ⟨a3, c3, b3, d3, b3x, d3x, rfl, hr, hra, hrb, g⟩
    replace HX := Lib.hid (HX.out.grown g)
    replace HI := Lib.hid (HI.out.grown g)
    replace HG := Lib.hid (World.grownBy.trans HG.out g)
    clear g
    have Rla := Lib.hid hra
    have Rlb := Lib.hid hrb
    clear hra hrb HIC
    have x0 := HX.out.c0
    have x1 := HX.out.c1
    have x2 := HX.out.c2
    have x3 := HX.out.c3
    have x4 := HX.out.c4
    go_upto_region 5 with fail
    clear x0 x1 x2 x3 x4
    have hb := CB.new hr
    have g := World.grownBy_alloc V3 (.cells #[.slice a3 g0.length c3] 32) none
    obtain ⟨V4, hV4⟩ : ∃ z, World.alloc V3 (.cells #[.slice a3 g0.length c3] 32) = z := ⟨_, rfl⟩
    rw [hV4] at g hb ⊢
    clear hV4 hr
    obtain ⟨bc, hbb⟩ : ∃ b, V3.heap.size = b := ⟨_, rfl⟩
    rw [hbb] at hb ⊢
    clear hbb
    replace HX := Lib.hid (HX.out.grown g)
    replace HI := Lib.hid (HI.out.grown g)
    replace Rla := Lib.hid (Rla.out.grown g)
    replace Rlb := Lib.hid (Rlb.out.grown g)
    replace HG := Lib.hid (World.grownBy.trans HG.out g)
    clear g
    have Hc := Lib.hid hb
    clear hb
    have HB := Lib.hid (show na ≤ 9 ∧ nb ≤ 9 from ⟨HGN.out.2.1, HGN.out.2.2.1⟩)
    obtain ⟨rD, eD⟩ : ∃ rr9, (sorterP la).run g0 = rr9 := ⟨_, rfl⟩
    obtain ⟨gD, lD⟩ := rD
    have dD := sorter_den eD HGD.out (by have := HL.out; omega) OA.out (by have := NA.out; have := HB.out; omega)
    have hD1 := dD.1.len
    obtain ⟨rE, eE⟩ : ∃ rr9, (totalP 6 lb).run gD = rr9 := ⟨_, rfl⟩
    obtain ⟨gE, lE⟩ := rE
    have cE := costT9 lb.length (by have := NB.out; have := HB.out; omega)
    have obD : ∀ r ∈ lb, Ok gD r := fun r hr => dD.1.ok (OB.out r hr)
    have dE := total_den eE dD.1.good (by have := HL.out; omega) obD (by have := NB.out; have := HB.out; omega)
    have hE1 := dE.1.len
    have lenD : lD.length = na := by rw [dD.2.1, NA.out]
    have lenE : lE.length = nb := by rw [dE.2.1, NB.out]
    have okD : ∀ r ∈ lD, Ok gE r := fun r hr => dE.1.ok ((dD.2.2 []).2.2 r hr)
    have okE : ∀ r ∈ lE, Ok gE r := fun r hr => (dE.2.2 []).2.2 r hr
    have cF := costA9 lD.length (by have := HB.out; omega) lE.length (by have := HB.out; omega)
    have cG := costA9 lE.length (by have := HB.out; omega) lD.length (by have := HB.out; omega)
    obtain ⟨rF, eF⟩ : ∃ rr9, (addP lD lE).run gE = rr9 := ⟨_, rfl⟩
    obtain ⟨gF, lF⟩ := rF
    have dF := add_den eF dE.1.good (by have := HL.out; omega) okD okE
    have hF1 := dF.1.len
    obtain ⟨rG, eG⟩ : ∃ rr9, (addP lE lD).run gE = rr9 := ⟨_, rfl⟩
    obtain ⟨gG, lG⟩ := rG
    have dG := add_den eG dE.1.good (by have := HL.out; omega) okE okD
    have hG1 := dG.1.len
    obtain ⟨rT, eT⟩ : ∃ rr9, (totalP 6 (la ++ lb)).run g0 = rr9 := ⟨_, rfl⟩
    obtain ⟨gT, lT⟩ := rT
    have lab : (la ++ lb).length = na + nb := by rw [List.length_append, NA.out, NB.out]
    have cT := costT18 (la ++ lb).length (by have := HB.out; omega)
    have okab : ∀ r ∈ la ++ lb, Ok g0 r := fun r hr => (List.mem_append.1 hr).elim (OA.out r) (OB.out r)
    have dT := total_den eT HGD.out (by have := HL.out; omega) okab (by have := HB.out; omega)
    have hT1 := dT.1.len
    obtain ⟨rI, eI⟩ : ∃ rr9, (addP lD []).run gE = rr9 := ⟨_, rfl⟩
    obtain ⟨gI, lI⟩ := rI
    have cI := costA9 lD.length (by have := HB.out; omega) 0 (by omega)
    have dI := add_den eI dE.1.good (by have := HL.out; show _ + costA lD.length 0 ≤ _; omega) okD (by simp)
    have hI1 := dI.1.len
    have cI2 : costA lD.length ([] : List Int).length = costA lD.length 0 := rfl
    have lenF : lF.length = na + nb := by rw [dF.2.1, lenD, lenE]
    have lenG : lG.length = na + nb := by rw [dG.2.1, lenD, lenE]; omega
    have lenI : lI.length = na := by rw [dI.2.1, lenD]; rfl
    have cJ := costA18 lF.length (by have := HB.out; omega) lD.length (by have := HB.out; omega)
    have cL := costA18b lD.length (by have := HB.out; omega) lG.length (by have := HB.out; omega)
    have okDF : ∀ r ∈ lD, Ok gF r := fun r hr => dF.1.ok (okD r hr)
    have okDG : ∀ r ∈ lD, Ok gG r := fun r hr => dG.1.ok (okD r hr)
    obtain ⟨rJ, eJ⟩ : ∃ rr9, (addP lF lD).run gF = rr9 := ⟨_, rfl⟩
    obtain ⟨gJ, lJ⟩ := rJ
    have dJ := add_den eJ dF.1.good (by have := HL.out; omega) dF.2.2.1 okDF
    have hJ1 := dJ.1.len
    obtain ⟨rL, eL⟩ : ∃ rr9, (addP lD lG).run gG = rr9 := ⟨_, rfl⟩
    obtain ⟨gL, lL⟩ := rL
    have dL := add_den eL dG.1.good (by have := HL.out; omega) okDG dG.2.2.1
    have hL1 := dL.1.len
    have lenT : lT.length = na + nb := by rw [dT.2.1, lab]
    have lenJ : lJ.length = na + nb + na := by rw [dJ.2.1, lenF, lenD]
    have lenL : lL.length = na + (na + nb) := by rw [dL.2.1, lenG, lenD]
    obtain ⟨n, hn⟩ : ∃ n, numV g0 vals la = n := ⟨_, rfl⟩
    obtain ⟨m, hm⟩ : ∃ n, numV g0 vals lb = n := ⟨_, rfl⟩
    have DD0 : Den gD vals lD n := by rw [← hn]; exact dD.2.2 vals
    have DD : Den gE vals lD n := DD0.grow dE.1
    have DE : Den gE vals lE m := by have h := dE.2.2 vals; rw [num_grow dD.1 OB.out, hm] at h; exact h
    have DF := dF.2.2.2 vals n m DD DE
    have DG := dG.2.2.2 vals m n DE DD
    have DT : Den gT vals lT (n + m) := by have h := dT.2.2 vals; unfold numV at h; rw [List.map_append, List.count_append] at h; unfold numV at hn hm; rw [hn, hm] at h; exact h
    have DI := dI.2.2.2 vals n 0 DD ⟨rfl, Nat.le_refl _, by simp⟩
    have DJ := dJ.2.2.2 vals (n + m) n DF (DD.grow dF.1)
    have DL := dL.2.2.2 vals n (m + n) (DD.grow dG.1) DG
    rw [Nat.add_comm m n] at DG
    rw [show n + (m + n) = n + m + n by omega] at DL
    rw [Nat.add_zero] at DI
    obtain ⟨nm, hnm⟩ : ∃ z, n + m = z := ⟨_, rfl⟩
    rw [hnm] at DF DG DT DJ DL
    have HNM := Lib.hid (show n + m = nm ∧ n ≤ 9 ∧ m ≤ 9 from ⟨hnm, by have := DD.2.1; have := HB.out; omega, by have := DE.2.1; have := HB.out; omega⟩)
    have hsz := HL.out
    have GX := Lib.hid (show (Good gD ∧ gD.length ≤ 990) ∧ (Good gE ∧ gE.length ≤ 990) ∧ (Good gF ∧ gF.length ≤ 990) ∧ (Good gG ∧ gG.length ≤ 990) ∧ (Good gT ∧ gT.length ≤ 990) ∧ (Good gI ∧ gI.length ≤ 990) ∧ (Good gJ ∧ gJ.length ≤ 990) ∧ (Good gL ∧ gL.length ≤ 990) from ⟨⟨dD.1.good, by omega⟩, ⟨dE.1.good, by omega⟩, ⟨dF.1.good, by omega⟩, ⟨dG.1.good, by omega⟩, ⟨dT.1.good, by omega⟩, ⟨dI.1.good, by omega⟩, ⟨dJ.1.good, by omega⟩, ⟨dL.1.good, by omega⟩⟩)
    have DX := Lib.hid (And.intro DD0 (And.intro DD (And.intro DE (And.intro DF (And.intro DG (And.intro DT (And.intro DI (And.intro DJ DL))))))))
    have LX := Lib.hid (show lD.length = na ∧ lE.length = nb ∧ lF.length = na + nb ∧ lG.length = na + nb ∧ lT.length = na + nb ∧ lI.length = na ∧ lJ.length = na + nb + na ∧ lL.length = na + (na + nb) ∧ (la ++ lb).length = na + nb from ⟨lenD, lenE, lenF, lenG, lenT, lenI, lenJ, lenL, lab⟩)
    have PX := Lib.hid (And.intro dD.1.pre (And.intro dE.1.pre (And.intro dF.1.pre dG.1.pre)))
    have HCD := Lib.hid (fun (W : World) (a : Option Addr) (c : Nat) (b : Option Addr) (d : Nat) (hW : GatesW W a c g0) (hr : IntsW W b d la) => sorter_n NA.out eD HGD.out (by omega) OA.out (by have := NA.out; have := HB.out; omega) hW hr)
    have HCE := Lib.hid (fun (W : World) (a : Option Addr) (c : Nat) (b : Option Addr) (d : Nat) (hW : GatesW W a c gD) (hr : IntsW W b d lb) => totalizer_n NB.out eE dD.1.good obD (by have := NB.out; have := HB.out; omega) (by omega) hW hr)
    have HCF := Lib.hid (fun (W : World) (a : Option Addr) (c : Nat) (b : Option Addr) (d : Nat) (b2 : Option Addr) (d2 : Nat) (hW : GatesW W a c gE) (hr : IntsW W b d lD) (hr2 : IntsW W b2 d2 lE) => add_n lenD lenE rfl eF dE.1.good okD okE (by have := HB.out; omega) (by have := HB.out; omega) (by omega) hW hr hr2)
    have HCG := Lib.hid (fun (W : World) (a : Option Addr) (c : Nat) (b : Option Addr) (d : Nat) (b2 : Option Addr) (d2 : Nat) (hW : GatesW W a c gE) (hr : IntsW W b d lE) (hr2 : IntsW W b2 d2 lD) => add_n lenE lenD (Nat.add_comm nb na) eG dE.1.good okE okD (by have := HB.out; omega) (by have := HB.out; omega) (by omega) hW hr hr2)
    have HCT := Lib.hid (fun (W : World) (a : Option Addr) (c : Nat) (b : Option Addr) (d : Nat) (hW : GatesW W a c g0) (hr : IntsW W b d (la ++ lb)) => totalizer_n lab eT HGD.out okab (by have := HB.out; omega) (by omega) hW hr)
    have HCI := Lib.hid (fun (W : World) (a : Option Addr) (c : Nat) (b : Option Addr) (d : Nat) (hW : GatesW W a c gE) (hr : IntsW W b d lD) => add_n (b2 := none) (d2 := 0) lenD (show ([] : List Int).length = 0 from rfl) (Nat.add_zero na) eI dE.1.good okD (by simp) (by have := HB.out; omega) (by decide) (by show _ + costA lD.length 0 ≤ _; omega) hW hr (intsW_nil _ none 0))
    have HCJ := Lib.hid (fun (W : World) (a : Option Addr) (c : Nat) (b : Option Addr) (d : Nat) (b2 : Option Addr) (d2 : Nat) (hW : GatesW W a c gF) (hr : IntsW W b d lF) (hr2 : IntsW W b2 d2 lD) => add_n lenF lenD rfl eJ dF.1.good dF.2.2.1 okDF (by have := HB.out; omega) (by have := HB.out; omega) (by omega) hW hr hr2)
    have HCL := Lib.hid (fun (W : World) (a : Option Addr) (c : Nat) (b : Option Addr) (d : Nat) (b2 : Option Addr) (d2 : Nat) (hW : GatesW W a c gG) (hr : IntsW W b d lD) (hr2 : IntsW W b2 d2 lG) => add_n lenD lenG rfl eL dG.1.good okDG dG.2.2.1 (by have := HB.out; omega) (by have := HB.out; omega) (by omega) hW hr hr2)
    clear eD eE eF eG eT eI eJ eL dD dE dF dG dT dI dJ dL hD1 hE1 hF1 hG1 hT1 hI1 hJ1 hL1 cE cF cG cT cI cI2 cJ cL obD lenD lenE lenF lenG lenI lenT lenJ lenL lab okab okD okE okDF okDG hn hm hnm DD0 DD DE DF DG DT DI DJ DL hsz
    obtain ⟨nab, hnab⟩ : ∃ z, na + nb = z := ⟨_, rfl⟩
    have HNAB := Lib.hid hnab
    rw [hnab] at LX HCF HCG HCT HCJ HCL
    have qc := Hc.out.1
    have x0 := HX.out.c0
    have x1 := HX.out.c1
    have x2 := HX.out.c2
    have x3 := HX.out.c3
    have x4 := HX.out.c4
    go_wp2_with fail
    clear qc x0 x1 x2 x3 x4
    refine (HCD.out _ _ _ _ _ Hc.out.2.2 Rla.out).mono ?_
    rintro e V5 ⟨a5, c5, b5, d5, rfl, hr, hrow, g⟩
    replace Hc := Lib.hid (Hc.out.grown g)
    replace HX := Lib.hid (HX.out.grown g)
    replace HI := Lib.hid (HI.out.grown g)
    replace Rla := Lib.hid (Rla.out.grown g)
    replace Rlb := Lib.hid (Rlb.out.grown g)
    replace HG := Lib.hid (World.grownBy.trans HG.out g)
    clear g
    have RlD := Lib.hid hrow
    clear hrow
    have qc := Hc.out.1
    have x0 := HX.out.c0
    have x1 := HX.out.c1
    have x2 := HX.out.c2
    have x3 := HX.out.c3
    have x4 := HX.out.c4
    go_upto_region 6 with fail
    clear qc x0 x1 x2 x3 x4
    have hb := CB.new hr
    have g := World.grownBy_alloc V5 (.cells #[.slice a5 gD.length c5] 32) none
    obtain ⟨V6, hV6⟩ : ∃ z, World.alloc V5 (.cells #[.slice a5 gD.length c5] 32) = z := ⟨_, rfl⟩
    rw [hV6] at g hb ⊢
    clear hV6 hr
    obtain ⟨bD, hbb⟩ : ∃ b, V5.heap.size = b := ⟨_, rfl⟩
    rw [hbb] at hb ⊢
    clear hbb
    replace Hc := Lib.hid (Hc.out.grown g)
    replace HX := Lib.hid (HX.out.grown g)
    replace HI := Lib.hid (HI.out.grown g)
    replace Rla := Lib.hid (Rla.out.grown g)
    replace Rlb := Lib.hid (Rlb.out.grown g)
    replace RlD := Lib.hid (RlD.out.grown g)
    replace HG := Lib.hid (World.grownBy.trans HG.out g)
    clear g
    have HD := Lib.hid hb
    clear hb
    have qc := Hc.out.1
    have qD := HD.out.1
    have x0 := HX.out.c0
    have x1 := HX.out.c1
    have x2 := HX.out.c2
    have x3 := HX.out.c3
    have x4 := HX.out.c4
    go_wp2_with fail
    clear qc qD x0 x1 x2 x3 x4
    refine (extends_yes g0 gD _ _ _ _ _ ((Hc.out).2.2) ((HD.out).2.2) PX.out.1 GX.out.1.1 (by have := GX.out.1.2; omega)).mono ?_
    rintro e V7 ⟨rfl, g⟩
    replace Hc := Lib.hid (Hc.out.grown g)
    replace HD := Lib.hid (HD.out.grown g)
    replace HX := Lib.hid (HX.out.grown g)
    replace HI := Lib.hid (HI.out.grown g)
    replace Rla := Lib.hid (Rla.out.grown g)
    replace Rlb := Lib.hid (Rlb.out.grown g)
    replace RlD := Lib.hid (RlD.out.grown g)
    replace HG := Lib.hid (World.grownBy.trans HG.out g)
    clear g
    have qc := Hc.out.1
    have qD := HD.out.1
    have x0 := HX.out.c0
    have x1 := HX.out.c1
    have x2 := HX.out.c2
    have x3 := HX.out.c3
    have x4 := HX.out.c4
    go_wp2_with fail
    clear qc qD x0 x1 x2 x3 x4
    refine (valid24_n LX.out.1 DX.out.1 (GX.out.1.2) ((HD.out).2.2) RlD.out (by have := HB.out; omega)).mono ?_
    rintro e V8 ⟨rfl, g⟩
    replace Hc := Lib.hid (Hc.out.grown g)
    replace HD := Lib.hid (HD.out.grown g)
    replace HX := Lib.hid (HX.out.grown g)
    replace HI := Lib.hid (HI.out.grown g)
    replace Rla := Lib.hid (Rla.out.grown g)
    replace Rlb := Lib.hid (Rlb.out.grown g)
    replace RlD := Lib.hid (RlD.out.grown g)
    replace HG := Lib.hid (World.grownBy.trans HG.out g)
    clear g
    have qc := Hc.out.1
    have qD := HD.out.1
    have x0 := HX.out.c0
    have x1 := HX.out.c1
    have x2 := HX.out.c2
    have x3 := HX.out.c3
    have x4 := HX.out.c4
    go_upto_region 8 with fail
    clear qc qD x0 x1 x2 x3 x4
    have qc := Hc.out.1
    have qD := HD.out.1
    have x0 := HX.out.c0
    have x1 := HX.out.c1
    have x2 := HX.out.c2
    have x3 := HX.out.c3
    have x4 := HX.out.c4
    go_wp2_with fail
    clear qc qD x0 x1 x2 x3 x4
    refine (HCE.out _ _ _ _ _ HD.out.2.2 Rlb.out).mono ?_
    rintro e V9 ⟨a9, c9, b9, d9, rfl, hr, hrow, g⟩
    replace Hc := Lib.hid (Hc.out.grown g)
    replace HD := Lib.hid (HD.out.grown g)
    replace HX := Lib.hid (HX.out.grown g)
    replace HI := Lib.hid (HI.out.grown g)
    replace Rla := Lib.hid (Rla.out.grown g)
    replace Rlb := Lib.hid (Rlb.out.grown g)
    replace RlD := Lib.hid (RlD.out.grown g)
    replace HG := Lib.hid (World.grownBy.trans HG.out g)
    clear g
    have RlE := Lib.hid hrow
    clear hrow
    have qc := Hc.out.1
    have qD := HD.out.1
    have x0 := HX.out.c0
    have x1 := HX.out.c1
    have x2 := HX.out.c2
    have x3 := HX.out.c3
    have x4 := HX.out.c4
    go_upto_region 9 with fail
    clear qc qD x0 x1 x2 x3 x4
    have hb := CB.new hr
    have g := World.grownBy_alloc V9 (.cells #[.slice a9 gE.length c9] 32) none
    obtain ⟨V10, hV10⟩ : ∃ z, World.alloc V9 (.cells #[.slice a9 gE.length c9] 32) = z := ⟨_, rfl⟩
    rw [hV10] at g hb ⊢
    clear hV10 hr
    obtain ⟨bE, hbb⟩ : ∃ b, V9.heap.size = b := ⟨_, rfl⟩
    rw [hbb] at hb ⊢
    clear hbb
    replace Hc := Lib.hid (Hc.out.grown g)
    replace HD := Lib.hid (HD.out.grown g)
    replace HX := Lib.hid (HX.out.grown g)
    replace HI := Lib.hid (HI.out.grown g)
    replace Rla := Lib.hid (Rla.out.grown g)
    replace Rlb := Lib.hid (Rlb.out.grown g)
    replace RlD := Lib.hid (RlD.out.grown g)
    replace RlE := Lib.hid (RlE.out.grown g)
    replace HG := Lib.hid (World.grownBy.trans HG.out g)
    clear g
    have HE := Lib.hid hb
    clear hb
    have qc := Hc.out.1
    have qD := HD.out.1
    have qE := HE.out.1
    have x0 := HX.out.c0
    have x1 := HX.out.c1
    have x2 := HX.out.c2
    have x3 := HX.out.c3
    have x4 := HX.out.c4
    go_wp2_with fail
    clear qc qD qE x0 x1 x2 x3 x4
    refine (extends_yes gD gE _ _ _ _ _ ((HD.out).2.2) ((HE.out).2.2) PX.out.2.1 GX.out.2.1.1 (by have := GX.out.2.1.2; omega)).mono ?_
    rintro e V11 ⟨rfl, g⟩
    replace Hc := Lib.hid (Hc.out.grown g)
    replace HD := Lib.hid (HD.out.grown g)
    replace HE := Lib.hid (HE.out.grown g)
    replace HX := Lib.hid (HX.out.grown g)
    replace HI := Lib.hid (HI.out.grown g)
    replace Rla := Lib.hid (Rla.out.grown g)
    replace Rlb := Lib.hid (Rlb.out.grown g)
    replace RlD := Lib.hid (RlD.out.grown g)
    replace RlE := Lib.hid (RlE.out.grown g)
    replace HG := Lib.hid (World.grownBy.trans HG.out g)
    clear g
    have qc := Hc.out.1
    have qD := HD.out.1
    have qE := HE.out.1
    have x0 := HX.out.c0
    have x1 := HX.out.c1
    have x2 := HX.out.c2
    have x3 := HX.out.c3
    have x4 := HX.out.c4
    go_wp2_with fail
    clear qc qD qE x0 x1 x2 x3 x4
    refine (valid24_n LX.out.2.1 DX.out.2.2.1 (GX.out.2.1.2) ((HE.out).2.2) (RlE.out) (by have := HB.out; omega)).mono ?_
    rintro e V12 ⟨rfl, g⟩
    replace Hc := Lib.hid (Hc.out.grown g)
    replace HD := Lib.hid (HD.out.grown g)
    replace HE := Lib.hid (HE.out.grown g)
    replace HX := Lib.hid (HX.out.grown g)
    replace HI := Lib.hid (HI.out.grown g)
    replace Rla := Lib.hid (Rla.out.grown g)
    replace Rlb := Lib.hid (Rlb.out.grown g)
    replace RlD := Lib.hid (RlD.out.grown g)
    replace RlE := Lib.hid (RlE.out.grown g)
    replace HG := Lib.hid (World.grownBy.trans HG.out g)
    clear g
    have qc := Hc.out.1
    have qD := HD.out.1
    have qE := HE.out.1
    have x0 := HX.out.c0
    have x1 := HX.out.c1
    have x2 := HX.out.c2
    have x3 := HX.out.c3
    have x4 := HX.out.c4
    go_upto_region 11 with fail
    clear qc qD qE x0 x1 x2 x3 x4
    have qc := Hc.out.1
    have qD := HD.out.1
    have qE := HE.out.1
    have x0 := HX.out.c0
    have x1 := HX.out.c1
    have x2 := HX.out.c2
    have x3 := HX.out.c3
    have x4 := HX.out.c4
    go_wp2_with fail
    clear qc qD qE x0 x1 x2 x3 x4
    refine (HCF.out _ _ _ _ _ _ _ HE.out.2.2 RlD.out RlE.out).mono ?_
    rintro e V13 ⟨a13, c13, b13, d13, rfl, hr, hrow, g⟩
    replace Hc := Lib.hid (Hc.out.grown g)
    replace HD := Lib.hid (HD.out.grown g)
    replace HE := Lib.hid (HE.out.grown g)
    replace HX := Lib.hid (HX.out.grown g)
    replace HI := Lib.hid (HI.out.grown g)
    replace Rla := Lib.hid (Rla.out.grown g)
    replace Rlb := Lib.hid (Rlb.out.grown g)
    replace RlD := Lib.hid (RlD.out.grown g)
    replace RlE := Lib.hid (RlE.out.grown g)
    replace HG := Lib.hid (World.grownBy.trans HG.out g)
    clear g
    have RlF := Lib.hid hrow
    clear hrow
    have qc := Hc.out.1
    have qD := HD.out.1
    have qE := HE.out.1
    have x0 := HX.out.c0
    have x1 := HX.out.c1
    have x2 := HX.out.c2
    have x3 := HX.out.c3
    have x4 := HX.out.c4
    go_upto_region 12 with fail
    clear qc qD qE x0 x1 x2 x3 x4
    have hb := CB.new hr
    have g := World.grownBy_alloc V13 (.cells #[.slice a13 gF.length c13] 32) none
    obtain ⟨V14, hV14⟩ : ∃ z, World.alloc V13 (.cells #[.slice a13 gF.length c13] 32) = z := ⟨_, rfl⟩
    rw [hV14] at g hb ⊢
    clear hV14 hr
    obtain ⟨bF, hbb⟩ : ∃ b, V13.heap.size = b := ⟨_, rfl⟩
    rw [hbb] at hb ⊢
    clear hbb
    replace Hc := Lib.hid (Hc.out.grown g)
    replace HD := Lib.hid (HD.out.grown g)
    replace HE := Lib.hid (HE.out.grown g)
    replace HX := Lib.hid (HX.out.grown g)
    replace HI := Lib.hid (HI.out.grown g)
    replace Rla := Lib.hid (Rla.out.grown g)
    replace Rlb := Lib.hid (Rlb.out.grown g)
    replace RlD := Lib.hid (RlD.out.grown g)
    replace RlE := Lib.hid (RlE.out.grown g)
    replace RlF := Lib.hid (RlF.out.grown g)
    replace HG := Lib.hid (World.grownBy.trans HG.out g)
    clear g
    have HF := Lib.hid hb
    clear hb
    have qc := Hc.out.1
    have qD := HD.out.1
    have qE := HE.out.1
    have qF := HF.out.1
    have x0 := HX.out.c0
    have x1 := HX.out.c1
    have x2 := HX.out.c2
    have x3 := HX.out.c3
    have x4 := HX.out.c4
    go_wp2_with fail
    clear qc qD qE qF x0 x1 x2 x3 x4
    refine (HCG.out _ _ _ _ _ _ _ HE.out.2.2 RlE.out RlD.out).mono ?_
    rintro e V15 ⟨a15, c15, b15, d15, rfl, hr, hrow, g⟩
    replace Hc := Lib.hid (Hc.out.grown g)
    replace HD := Lib.hid (HD.out.grown g)
    replace HE := Lib.hid (HE.out.grown g)
    replace HF := Lib.hid (HF.out.grown g)
    replace HX := Lib.hid (HX.out.grown g)
    replace HI := Lib.hid (HI.out.grown g)
    replace Rla := Lib.hid (Rla.out.grown g)
    replace Rlb := Lib.hid (Rlb.out.grown g)
    replace RlD := Lib.hid (RlD.out.grown g)
    replace RlE := Lib.hid (RlE.out.grown g)
    replace RlF := Lib.hid (RlF.out.grown g)
    replace HG := Lib.hid (World.grownBy.trans HG.out g)
    clear g
    have RlG := Lib.hid hrow
    clear hrow
    have qc := Hc.out.1
    have qD := HD.out.1
    have qE := HE.out.1
    have qF := HF.out.1
    have x0 := HX.out.c0
    have x1 := HX.out.c1
    have x2 := HX.out.c2
    have x3 := HX.out.c3
    have x4 := HX.out.c4
    go_upto_region 13 with fail
    clear qc qD qE qF x0 x1 x2 x3 x4
    have hb := CB.new hr
    have g := World.grownBy_alloc V15 (.cells #[.slice a15 gG.length c15] 32) none
    obtain ⟨V16, hV16⟩ : ∃ z, World.alloc V15 (.cells #[.slice a15 gG.length c15] 32) = z := ⟨_, rfl⟩
    rw [hV16] at g hb ⊢
    clear hV16 hr
    obtain ⟨bG2, hbb⟩ : ∃ b, V15.heap.size = b := ⟨_, rfl⟩
    rw [hbb] at hb ⊢
    clear hbb
    replace Hc := Lib.hid (Hc.out.grown g)
    replace HD := Lib.hid (HD.out.grown g)
    replace HE := Lib.hid (HE.out.grown g)
    replace HF := Lib.hid (HF.out.grown g)
    replace HX := Lib.hid (HX.out.grown g)
    replace HI := Lib.hid (HI.out.grown g)
    replace Rla := Lib.hid (Rla.out.grown g)
    replace Rlb := Lib.hid (Rlb.out.grown g)
    replace RlD := Lib.hid (RlD.out.grown g)
    replace RlE := Lib.hid (RlE.out.grown g)
    replace RlF := Lib.hid (RlF.out.grown g)
    replace RlG := Lib.hid (RlG.out.grown g)
    replace HG := Lib.hid (World.grownBy.trans HG.out g)
    clear g
    have HG2 := Lib.hid hb
    clear hb
    have g := World.grownBy_alloc V16 (.cells #[] 3) none
    have ho := World.ownsRow_made (base := V16.heap.size) (e := 3) (size := 1) V16 #[] 0 (Nat.le_refl _) (Nat.zero_le _) rfl
    have HB9 := Lib.hid HB.out
    go_wp2_with (at_builtin; refine append_intsR rfl _ _ rfl V16.heap.size _ 0 [] rfl ho b3 na d3 la rfl NA.out (Rla.out.grown g) (by have := HB9.out; omega) (World.grownBy.size g) ?_)
    intro v' w5 hown' hgrow'
    obtain ⟨x5q, c5q, rfl⟩ := own_shape hown'
    have hownA : w5.ownsRow V16.heap.size 3 1 (.slice x5q na c5q) na (intCells la) := by simpa using hown'
    clear hown'
    have hg5 : V16.grownBy w5 none := grown_own g hgrow' (fun j e => by injection e with e; have e' : V16.heap.size = j := e; omega)
    clear hgrow' ho g
    go_wp2_with (at_builtin; refine append_intsR rfl _ _ rfl V16.heap.size _ na la rfl hownA b3x nb d3x lb rfl NB.out (Rlb.out.grown hg5) (by have := HB9.out; omega) (World.grownBy.size hg5) ?_)
    intro v' w6 hown6 hgrow6
    obtain ⟨x6q, c6q, rfl⟩ := own_shape hown6
    have g : V16.grownBy w6 none := grown_own hg5 hgrow6 (fun j e => (hownA.lt j e).1)
    have hown7 : w6.ownsRow V16.heap.size 3 1 (.slice x6q nab c6q) nab (intCells (la ++ lb)) := by rw [intCells, List.map_append]; exact hown6
    have hro : IntsW w6 x6q c6q (la ++ lb) := IntsN.weak (IntsN.own (N := fun _ => False) (by rw [LX.out.2.2.2.2.2.2.2.2]) hown7 (fun k _ h => h))
    clear hownA hown7 hown6 hgrow6 hg5
    replace Hc := Lib.hid (Hc.out.grown g)
    replace HD := Lib.hid (HD.out.grown g)
    replace HE := Lib.hid (HE.out.grown g)
    replace HF := Lib.hid (HF.out.grown g)
    replace HG2 := Lib.hid (HG2.out.grown g)
    replace HX := Lib.hid (HX.out.grown g)
    replace HI := Lib.hid (HI.out.grown g)
    replace Rla := Lib.hid (Rla.out.grown g)
    replace Rlb := Lib.hid (Rlb.out.grown g)
    replace RlD := Lib.hid (RlD.out.grown g)
    replace RlE := Lib.hid (RlE.out.grown g)
    replace RlF := Lib.hid (RlF.out.grown g)
    replace RlG := Lib.hid (RlG.out.grown g)
    replace HG := Lib.hid (World.grownBy.trans HG.out g)
    clear g
    have Rall := Lib.hid hro
    clear hro
    have qc := Hc.out.1
    have qD := HD.out.1
    have qE := HE.out.1
    have qF := HF.out.1
    have qG2 := HG2.out.1
    have x0 := HX.out.c0
    have x1 := HX.out.c1
    have x2 := HX.out.c2
    have x3 := HX.out.c3
    have x4 := HX.out.c4
    go_wp2_with fail
    clear qc qD qE qF qG2 x0 x1 x2 x3 x4
    refine (HCT.out _ _ _ _ _ Hc.out.2.2 Rall.out).mono ?_
    rintro e V17 ⟨a17, c17, b17, d17, rfl, hr, hrow, g⟩
    replace Hc := Lib.hid (Hc.out.grown g)
    replace HD := Lib.hid (HD.out.grown g)
    replace HE := Lib.hid (HE.out.grown g)
    replace HF := Lib.hid (HF.out.grown g)
    replace HG2 := Lib.hid (HG2.out.grown g)
    replace HX := Lib.hid (HX.out.grown g)
    replace HI := Lib.hid (HI.out.grown g)
    replace Rla := Lib.hid (Rla.out.grown g)
    replace Rlb := Lib.hid (Rlb.out.grown g)
    replace RlD := Lib.hid (RlD.out.grown g)
    replace RlE := Lib.hid (RlE.out.grown g)
    replace RlF := Lib.hid (RlF.out.grown g)
    replace RlG := Lib.hid (RlG.out.grown g)
    replace Rall := Lib.hid (Rall.out.grown g)
    replace HG := Lib.hid (World.grownBy.trans HG.out g)
    clear g
    have RlT := Lib.hid hrow
    clear hrow
    have qc := Hc.out.1
    have qD := HD.out.1
    have qE := HE.out.1
    have qF := HF.out.1
    have qG2 := HG2.out.1
    have x0 := HX.out.c0
    have x1 := HX.out.c1
    have x2 := HX.out.c2
    have x3 := HX.out.c3
    have x4 := HX.out.c4
    go_upto_region 16 with fail
    clear qc qD qE qF qG2 x0 x1 x2 x3 x4
    have hb := CB.new hr
    have g := World.grownBy_alloc V17 (.cells #[.slice a17 gT.length c17] 32) none
    obtain ⟨V18, hV18⟩ : ∃ z, World.alloc V17 (.cells #[.slice a17 gT.length c17] 32) = z := ⟨_, rfl⟩
    rw [hV18] at g hb ⊢
    clear hV18 hr
    obtain ⟨bT, hbb⟩ : ∃ b, V17.heap.size = b := ⟨_, rfl⟩
    rw [hbb] at hb ⊢
    clear hbb
    replace Hc := Lib.hid (Hc.out.grown g)
    replace HD := Lib.hid (HD.out.grown g)
    replace HE := Lib.hid (HE.out.grown g)
    replace HF := Lib.hid (HF.out.grown g)
    replace HG2 := Lib.hid (HG2.out.grown g)
    replace HX := Lib.hid (HX.out.grown g)
    replace HI := Lib.hid (HI.out.grown g)
    replace Rla := Lib.hid (Rla.out.grown g)
    replace Rlb := Lib.hid (Rlb.out.grown g)
    replace RlD := Lib.hid (RlD.out.grown g)
    replace RlE := Lib.hid (RlE.out.grown g)
    replace RlF := Lib.hid (RlF.out.grown g)
    replace RlG := Lib.hid (RlG.out.grown g)
    replace Rall := Lib.hid (Rall.out.grown g)
    replace RlT := Lib.hid (RlT.out.grown g)
    replace HG := Lib.hid (World.grownBy.trans HG.out g)
    clear g
    have HT := Lib.hid hb
    clear hb
    have qc := Hc.out.1
    have qD := HD.out.1
    have qE := HE.out.1
    have qF := HF.out.1
    have qG2 := HG2.out.1
    have qT := HT.out.1
    have x0 := HX.out.c0
    have x1 := HX.out.c1
    have x2 := HX.out.c2
    have x3 := HX.out.c3
    have x4 := HX.out.c4
    go_wp2_with fail
    clear qc qD qE qF qG2 qT x0 x1 x2 x3 x4
    refine (HCI.out _ _ _ _ _ HE.out.2.2 RlD.out).mono ?_
    rintro e V19 ⟨a19, c19, b19, d19, rfl, hr, hrow, g⟩
    replace Hc := Lib.hid (Hc.out.grown g)
    replace HD := Lib.hid (HD.out.grown g)
    replace HE := Lib.hid (HE.out.grown g)
    replace HF := Lib.hid (HF.out.grown g)
    replace HG2 := Lib.hid (HG2.out.grown g)
    replace HT := Lib.hid (HT.out.grown g)
    replace HX := Lib.hid (HX.out.grown g)
    replace HI := Lib.hid (HI.out.grown g)
    replace Rla := Lib.hid (Rla.out.grown g)
    replace Rlb := Lib.hid (Rlb.out.grown g)
    replace RlD := Lib.hid (RlD.out.grown g)
    replace RlE := Lib.hid (RlE.out.grown g)
    replace RlF := Lib.hid (RlF.out.grown g)
    replace RlG := Lib.hid (RlG.out.grown g)
    replace Rall := Lib.hid (Rall.out.grown g)
    replace RlT := Lib.hid (RlT.out.grown g)
    replace HG := Lib.hid (World.grownBy.trans HG.out g)
    clear g
    have RlI := Lib.hid hrow
    clear hrow
    have qc := Hc.out.1
    have qD := HD.out.1
    have qE := HE.out.1
    have qF := HF.out.1
    have qG2 := HG2.out.1
    have qT := HT.out.1
    have x0 := HX.out.c0
    have x1 := HX.out.c1
    have x2 := HX.out.c2
    have x3 := HX.out.c3
    have x4 := HX.out.c4
    go_upto_region 17 with fail
    clear qc qD qE qF qG2 qT x0 x1 x2 x3 x4
    have hb := CB.new hr
    have g := World.grownBy_alloc V19 (.cells #[.slice a19 gI.length c19] 32) none
    obtain ⟨V20, hV20⟩ : ∃ z, World.alloc V19 (.cells #[.slice a19 gI.length c19] 32) = z := ⟨_, rfl⟩
    rw [hV20] at g hb ⊢
    clear hV20 hr
    obtain ⟨bIb, hbb⟩ : ∃ b, V19.heap.size = b := ⟨_, rfl⟩
    rw [hbb] at hb ⊢
    clear hbb
    replace Hc := Lib.hid (Hc.out.grown g)
    replace HD := Lib.hid (HD.out.grown g)
    replace HE := Lib.hid (HE.out.grown g)
    replace HF := Lib.hid (HF.out.grown g)
    replace HG2 := Lib.hid (HG2.out.grown g)
    replace HT := Lib.hid (HT.out.grown g)
    replace HX := Lib.hid (HX.out.grown g)
    replace HI := Lib.hid (HI.out.grown g)
    replace Rla := Lib.hid (Rla.out.grown g)
    replace Rlb := Lib.hid (Rlb.out.grown g)
    replace RlD := Lib.hid (RlD.out.grown g)
    replace RlE := Lib.hid (RlE.out.grown g)
    replace RlF := Lib.hid (RlF.out.grown g)
    replace RlG := Lib.hid (RlG.out.grown g)
    replace Rall := Lib.hid (Rall.out.grown g)
    replace RlT := Lib.hid (RlT.out.grown g)
    replace RlI := Lib.hid (RlI.out.grown g)
    replace HG := Lib.hid (World.grownBy.trans HG.out g)
    clear g
    have HIb := Lib.hid hb
    clear hb
    have qc := Hc.out.1
    have qD := HD.out.1
    have qE := HE.out.1
    have qF := HF.out.1
    have qG2 := HG2.out.1
    have qT := HT.out.1
    have qIb := HIb.out.1
    have x0 := HX.out.c0
    have x1 := HX.out.c1
    have x2 := HX.out.c2
    have x3 := HX.out.c3
    have x4 := HX.out.c4
    go_wp2_with fail
    clear qc qD qE qF qG2 qT qIb x0 x1 x2 x3 x4
    refine (valid24_n LX.out.2.2.1 DX.out.2.2.2.1 (GX.out.2.2.1.2) ((HF.out).2.2) (RlF.out) (by have := HB.out; omega)).mono ?_
    rintro e V21 ⟨rfl, g⟩
    replace Hc := Lib.hid (Hc.out.grown g)
    replace HD := Lib.hid (HD.out.grown g)
    replace HE := Lib.hid (HE.out.grown g)
    replace HF := Lib.hid (HF.out.grown g)
    replace HG2 := Lib.hid (HG2.out.grown g)
    replace HT := Lib.hid (HT.out.grown g)
    replace HIb := Lib.hid (HIb.out.grown g)
    replace HX := Lib.hid (HX.out.grown g)
    replace HI := Lib.hid (HI.out.grown g)
    replace Rla := Lib.hid (Rla.out.grown g)
    replace Rlb := Lib.hid (Rlb.out.grown g)
    replace RlD := Lib.hid (RlD.out.grown g)
    replace RlE := Lib.hid (RlE.out.grown g)
    replace RlF := Lib.hid (RlF.out.grown g)
    replace RlG := Lib.hid (RlG.out.grown g)
    replace Rall := Lib.hid (Rall.out.grown g)
    replace RlT := Lib.hid (RlT.out.grown g)
    replace RlI := Lib.hid (RlI.out.grown g)
    replace HG := Lib.hid (World.grownBy.trans HG.out g)
    clear g
    have qc := Hc.out.1
    have qD := HD.out.1
    have qE := HE.out.1
    have qF := HF.out.1
    have qG2 := HG2.out.1
    have qT := HT.out.1
    have qIb := HIb.out.1
    have x0 := HX.out.c0
    have x1 := HX.out.c1
    have x2 := HX.out.c2
    have x3 := HX.out.c3
    have x4 := HX.out.c4
    go_wp2_with fail
    clear qc qD qE qF qG2 qT qIb x0 x1 x2 x3 x4
    refine (extends_yes gE gF _ _ _ _ _ ((HE.out).2.2) ((HF.out).2.2) PX.out.2.2.1 GX.out.2.2.1.1 (by have := GX.out.2.2.1.2; omega)).mono ?_
    rintro e V22 ⟨rfl, g⟩
    replace Hc := Lib.hid (Hc.out.grown g)
    replace HD := Lib.hid (HD.out.grown g)
    replace HE := Lib.hid (HE.out.grown g)
    replace HF := Lib.hid (HF.out.grown g)
    replace HG2 := Lib.hid (HG2.out.grown g)
    replace HT := Lib.hid (HT.out.grown g)
    replace HIb := Lib.hid (HIb.out.grown g)
    replace HX := Lib.hid (HX.out.grown g)
    replace HI := Lib.hid (HI.out.grown g)
    replace Rla := Lib.hid (Rla.out.grown g)
    replace Rlb := Lib.hid (Rlb.out.grown g)
    replace RlD := Lib.hid (RlD.out.grown g)
    replace RlE := Lib.hid (RlE.out.grown g)
    replace RlF := Lib.hid (RlF.out.grown g)
    replace RlG := Lib.hid (RlG.out.grown g)
    replace Rall := Lib.hid (Rall.out.grown g)
    replace RlT := Lib.hid (RlT.out.grown g)
    replace RlI := Lib.hid (RlI.out.grown g)
    replace HG := Lib.hid (World.grownBy.trans HG.out g)
    clear g
    have qc := Hc.out.1
    have qD := HD.out.1
    have qE := HE.out.1
    have qF := HF.out.1
    have qG2 := HG2.out.1
    have qT := HT.out.1
    have qIb := HIb.out.1
    have x0 := HX.out.c0
    have x1 := HX.out.c1
    have x2 := HX.out.c2
    have x3 := HX.out.c3
    have x4 := HX.out.c4
    go_upto_region 19 with fail
    clear qc qD qE qF qG2 qT qIb x0 x1 x2 x3 x4
    have qc := Hc.out.1
    have qD := HD.out.1
    have qE := HE.out.1
    have qF := HF.out.1
    have qG2 := HG2.out.1
    have qT := HT.out.1
    have qIb := HIb.out.1
    have x0 := HX.out.c0
    have x1 := HX.out.c1
    have x2 := HX.out.c2
    have x3 := HX.out.c3
    have x4 := HX.out.c4
    go_wp2_with fail
    clear qc qD qE qF qG2 qT qIb x0 x1 x2 x3 x4
    refine (HCJ.out _ _ _ _ _ _ _ HF.out.2.2 RlF.out RlD.out).mono ?_
    rintro e V23 ⟨a23, c23, b23, d23, rfl, hr, hrow, g⟩
    replace Hc := Lib.hid (Hc.out.grown g)
    replace HD := Lib.hid (HD.out.grown g)
    replace HE := Lib.hid (HE.out.grown g)
    replace HF := Lib.hid (HF.out.grown g)
    replace HG2 := Lib.hid (HG2.out.grown g)
    replace HT := Lib.hid (HT.out.grown g)
    replace HIb := Lib.hid (HIb.out.grown g)
    replace HX := Lib.hid (HX.out.grown g)
    replace HI := Lib.hid (HI.out.grown g)
    replace Rla := Lib.hid (Rla.out.grown g)
    replace Rlb := Lib.hid (Rlb.out.grown g)
    replace RlD := Lib.hid (RlD.out.grown g)
    replace RlE := Lib.hid (RlE.out.grown g)
    replace RlF := Lib.hid (RlF.out.grown g)
    replace RlG := Lib.hid (RlG.out.grown g)
    replace Rall := Lib.hid (Rall.out.grown g)
    replace RlT := Lib.hid (RlT.out.grown g)
    replace RlI := Lib.hid (RlI.out.grown g)
    replace HG := Lib.hid (World.grownBy.trans HG.out g)
    clear g
    have RlJ := Lib.hid hrow
    clear hrow
    have qc := Hc.out.1
    have qD := HD.out.1
    have qE := HE.out.1
    have qF := HF.out.1
    have qG2 := HG2.out.1
    have qT := HT.out.1
    have qIb := HIb.out.1
    have x0 := HX.out.c0
    have x1 := HX.out.c1
    have x2 := HX.out.c2
    have x3 := HX.out.c3
    have x4 := HX.out.c4
    go_upto_region 20 with fail
    clear qc qD qE qF qG2 qT qIb x0 x1 x2 x3 x4
    have hb := CB.new hr
    have g := World.grownBy_alloc V23 (.cells #[.slice a23 gJ.length c23] 32) none
    obtain ⟨V24, hV24⟩ : ∃ z, World.alloc V23 (.cells #[.slice a23 gJ.length c23] 32) = z := ⟨_, rfl⟩
    rw [hV24] at g hb ⊢
    clear hV24 hr
    obtain ⟨bJ, hbb⟩ : ∃ b, V23.heap.size = b := ⟨_, rfl⟩
    rw [hbb] at hb ⊢
    clear hbb
    replace Hc := Lib.hid (Hc.out.grown g)
    replace HD := Lib.hid (HD.out.grown g)
    replace HE := Lib.hid (HE.out.grown g)
    replace HF := Lib.hid (HF.out.grown g)
    replace HG2 := Lib.hid (HG2.out.grown g)
    replace HT := Lib.hid (HT.out.grown g)
    replace HIb := Lib.hid (HIb.out.grown g)
    replace HX := Lib.hid (HX.out.grown g)
    replace HI := Lib.hid (HI.out.grown g)
    replace Rla := Lib.hid (Rla.out.grown g)
    replace Rlb := Lib.hid (Rlb.out.grown g)
    replace RlD := Lib.hid (RlD.out.grown g)
    replace RlE := Lib.hid (RlE.out.grown g)
    replace RlF := Lib.hid (RlF.out.grown g)
    replace RlG := Lib.hid (RlG.out.grown g)
    replace Rall := Lib.hid (Rall.out.grown g)
    replace RlT := Lib.hid (RlT.out.grown g)
    replace RlI := Lib.hid (RlI.out.grown g)
    replace RlJ := Lib.hid (RlJ.out.grown g)
    replace HG := Lib.hid (World.grownBy.trans HG.out g)
    clear g
    have HJ := Lib.hid hb
    clear hb
    have qc := Hc.out.1
    have qD := HD.out.1
    have qE := HE.out.1
    have qF := HF.out.1
    have qG2 := HG2.out.1
    have qT := HT.out.1
    have qIb := HIb.out.1
    have qJ := HJ.out.1
    have x0 := HX.out.c0
    have x1 := HX.out.c1
    have x2 := HX.out.c2
    have x3 := HX.out.c3
    have x4 := HX.out.c4
    go_wp2_with fail
    clear qc qD qE qF qG2 qT qIb qJ x0 x1 x2 x3 x4
    refine (HCG.out _ _ _ _ _ _ _ HE.out.2.2 RlE.out RlD.out).mono ?_
    rintro e V25 ⟨a25, c25, b25, d25, rfl, hr, hrow, g⟩
    replace Hc := Lib.hid (Hc.out.grown g)
    replace HD := Lib.hid (HD.out.grown g)
    replace HE := Lib.hid (HE.out.grown g)
    replace HF := Lib.hid (HF.out.grown g)
    replace HG2 := Lib.hid (HG2.out.grown g)
    replace HT := Lib.hid (HT.out.grown g)
    replace HIb := Lib.hid (HIb.out.grown g)
    replace HJ := Lib.hid (HJ.out.grown g)
    replace HX := Lib.hid (HX.out.grown g)
    replace HI := Lib.hid (HI.out.grown g)
    replace Rla := Lib.hid (Rla.out.grown g)
    replace Rlb := Lib.hid (Rlb.out.grown g)
    replace RlD := Lib.hid (RlD.out.grown g)
    replace RlE := Lib.hid (RlE.out.grown g)
    replace RlF := Lib.hid (RlF.out.grown g)
    replace RlG := Lib.hid (RlG.out.grown g)
    replace Rall := Lib.hid (Rall.out.grown g)
    replace RlT := Lib.hid (RlT.out.grown g)
    replace RlI := Lib.hid (RlI.out.grown g)
    replace RlJ := Lib.hid (RlJ.out.grown g)
    replace HG := Lib.hid (World.grownBy.trans HG.out g)
    clear g
    have RlK := Lib.hid hrow
    clear hrow
    have qc := Hc.out.1
    have qD := HD.out.1
    have qE := HE.out.1
    have qF := HF.out.1
    have qG2 := HG2.out.1
    have qT := HT.out.1
    have qIb := HIb.out.1
    have qJ := HJ.out.1
    have x0 := HX.out.c0
    have x1 := HX.out.c1
    have x2 := HX.out.c2
    have x3 := HX.out.c3
    have x4 := HX.out.c4
    go_upto_region 21 with fail
    clear qc qD qE qF qG2 qT qIb qJ x0 x1 x2 x3 x4
    have hb := CB.new hr
    have g := World.grownBy_alloc V25 (.cells #[.slice a25 gG.length c25] 32) none
    obtain ⟨V26, hV26⟩ : ∃ z, World.alloc V25 (.cells #[.slice a25 gG.length c25] 32) = z := ⟨_, rfl⟩
    rw [hV26] at g hb ⊢
    clear hV26 hr
    obtain ⟨bK, hbb⟩ : ∃ b, V25.heap.size = b := ⟨_, rfl⟩
    rw [hbb] at hb ⊢
    clear hbb
    replace Hc := Lib.hid (Hc.out.grown g)
    replace HD := Lib.hid (HD.out.grown g)
    replace HE := Lib.hid (HE.out.grown g)
    replace HF := Lib.hid (HF.out.grown g)
    replace HG2 := Lib.hid (HG2.out.grown g)
    replace HT := Lib.hid (HT.out.grown g)
    replace HIb := Lib.hid (HIb.out.grown g)
    replace HJ := Lib.hid (HJ.out.grown g)
    replace HX := Lib.hid (HX.out.grown g)
    replace HI := Lib.hid (HI.out.grown g)
    replace Rla := Lib.hid (Rla.out.grown g)
    replace Rlb := Lib.hid (Rlb.out.grown g)
    replace RlD := Lib.hid (RlD.out.grown g)
    replace RlE := Lib.hid (RlE.out.grown g)
    replace RlF := Lib.hid (RlF.out.grown g)
    replace RlG := Lib.hid (RlG.out.grown g)
    replace Rall := Lib.hid (Rall.out.grown g)
    replace RlT := Lib.hid (RlT.out.grown g)
    replace RlI := Lib.hid (RlI.out.grown g)
    replace RlJ := Lib.hid (RlJ.out.grown g)
    replace RlK := Lib.hid (RlK.out.grown g)
    replace HG := Lib.hid (World.grownBy.trans HG.out g)
    clear g
    have HK := Lib.hid hb
    clear hb
    have qc := Hc.out.1
    have qD := HD.out.1
    have qE := HE.out.1
    have qF := HF.out.1
    have qG2 := HG2.out.1
    have qT := HT.out.1
    have qIb := HIb.out.1
    have qJ := HJ.out.1
    have qK := HK.out.1
    have x0 := HX.out.c0
    have x1 := HX.out.c1
    have x2 := HX.out.c2
    have x3 := HX.out.c3
    have x4 := HX.out.c4
    go_wp2_with fail
    clear qc qD qE qF qG2 qT qIb qJ qK x0 x1 x2 x3 x4
    refine (valid24_n LX.out.2.2.2.1 DX.out.2.2.2.2.1 (GX.out.2.2.2.1.2) ((HK.out).2.2) (RlK.out) (by have := HB.out; omega)).mono ?_
    rintro e V27 ⟨rfl, g⟩
    replace Hc := Lib.hid (Hc.out.grown g)
    replace HD := Lib.hid (HD.out.grown g)
    replace HE := Lib.hid (HE.out.grown g)
    replace HF := Lib.hid (HF.out.grown g)
    replace HG2 := Lib.hid (HG2.out.grown g)
    replace HT := Lib.hid (HT.out.grown g)
    replace HIb := Lib.hid (HIb.out.grown g)
    replace HJ := Lib.hid (HJ.out.grown g)
    replace HK := Lib.hid (HK.out.grown g)
    replace HX := Lib.hid (HX.out.grown g)
    replace HI := Lib.hid (HI.out.grown g)
    replace Rla := Lib.hid (Rla.out.grown g)
    replace Rlb := Lib.hid (Rlb.out.grown g)
    replace RlD := Lib.hid (RlD.out.grown g)
    replace RlE := Lib.hid (RlE.out.grown g)
    replace RlF := Lib.hid (RlF.out.grown g)
    replace RlG := Lib.hid (RlG.out.grown g)
    replace Rall := Lib.hid (Rall.out.grown g)
    replace RlT := Lib.hid (RlT.out.grown g)
    replace RlI := Lib.hid (RlI.out.grown g)
    replace RlJ := Lib.hid (RlJ.out.grown g)
    replace RlK := Lib.hid (RlK.out.grown g)
    replace HG := Lib.hid (World.grownBy.trans HG.out g)
    clear g
    have qc := Hc.out.1
    have qD := HD.out.1
    have qE := HE.out.1
    have qF := HF.out.1
    have qG2 := HG2.out.1
    have qT := HT.out.1
    have qIb := HIb.out.1
    have qJ := HJ.out.1
    have qK := HK.out.1
    have x0 := HX.out.c0
    have x1 := HX.out.c1
    have x2 := HX.out.c2
    have x3 := HX.out.c3
    have x4 := HX.out.c4
    go_wp2_with fail
    clear qc qD qE qF qG2 qT qIb qJ qK x0 x1 x2 x3 x4
    refine (extends_yes gE gG _ _ _ _ _ ((HE.out).2.2) ((HK.out).2.2) PX.out.2.2.2 GX.out.2.2.2.1.1 (by have := GX.out.2.2.2.1.2; omega)).mono ?_
    rintro e V28 ⟨rfl, g⟩
    replace Hc := Lib.hid (Hc.out.grown g)
    replace HD := Lib.hid (HD.out.grown g)
    replace HE := Lib.hid (HE.out.grown g)
    replace HF := Lib.hid (HF.out.grown g)
    replace HG2 := Lib.hid (HG2.out.grown g)
    replace HT := Lib.hid (HT.out.grown g)
    replace HIb := Lib.hid (HIb.out.grown g)
    replace HJ := Lib.hid (HJ.out.grown g)
    replace HK := Lib.hid (HK.out.grown g)
    replace HX := Lib.hid (HX.out.grown g)
    replace HI := Lib.hid (HI.out.grown g)
    replace Rla := Lib.hid (Rla.out.grown g)
    replace Rlb := Lib.hid (Rlb.out.grown g)
    replace RlD := Lib.hid (RlD.out.grown g)
    replace RlE := Lib.hid (RlE.out.grown g)
    replace RlF := Lib.hid (RlF.out.grown g)
    replace RlG := Lib.hid (RlG.out.grown g)
    replace Rall := Lib.hid (Rall.out.grown g)
    replace RlT := Lib.hid (RlT.out.grown g)
    replace RlI := Lib.hid (RlI.out.grown g)
    replace RlJ := Lib.hid (RlJ.out.grown g)
    replace RlK := Lib.hid (RlK.out.grown g)
    replace HG := Lib.hid (World.grownBy.trans HG.out g)
    clear g
    have qc := Hc.out.1
    have qD := HD.out.1
    have qE := HE.out.1
    have qF := HF.out.1
    have qG2 := HG2.out.1
    have qT := HT.out.1
    have qIb := HIb.out.1
    have qJ := HJ.out.1
    have qK := HK.out.1
    have x0 := HX.out.c0
    have x1 := HX.out.c1
    have x2 := HX.out.c2
    have x3 := HX.out.c3
    have x4 := HX.out.c4
    go_upto_region 23 with fail
    clear qc qD qE qF qG2 qT qIb qJ qK x0 x1 x2 x3 x4
    have qc := Hc.out.1
    have qD := HD.out.1
    have qE := HE.out.1
    have qF := HF.out.1
    have qG2 := HG2.out.1
    have qT := HT.out.1
    have qIb := HIb.out.1
    have qJ := HJ.out.1
    have qK := HK.out.1
    have x0 := HX.out.c0
    have x1 := HX.out.c1
    have x2 := HX.out.c2
    have x3 := HX.out.c3
    have x4 := HX.out.c4
    go_wp2_with fail
    clear qc qD qE qF qG2 qT qIb qJ qK x0 x1 x2 x3 x4
    refine (HCL.out _ _ _ _ _ _ _ HK.out.2.2 RlD.out RlK.out).mono ?_
    rintro e V29 ⟨a29, c29, b29, d29, rfl, hr, hrow, g⟩
    replace Hc := Lib.hid (Hc.out.grown g)
    replace HD := Lib.hid (HD.out.grown g)
    replace HE := Lib.hid (HE.out.grown g)
    replace HF := Lib.hid (HF.out.grown g)
    replace HG2 := Lib.hid (HG2.out.grown g)
    replace HT := Lib.hid (HT.out.grown g)
    replace HIb := Lib.hid (HIb.out.grown g)
    replace HJ := Lib.hid (HJ.out.grown g)
    replace HK := Lib.hid (HK.out.grown g)
    replace HX := Lib.hid (HX.out.grown g)
    replace HI := Lib.hid (HI.out.grown g)
    replace Rla := Lib.hid (Rla.out.grown g)
    replace Rlb := Lib.hid (Rlb.out.grown g)
    replace RlD := Lib.hid (RlD.out.grown g)
    replace RlE := Lib.hid (RlE.out.grown g)
    replace RlF := Lib.hid (RlF.out.grown g)
    replace RlG := Lib.hid (RlG.out.grown g)
    replace Rall := Lib.hid (Rall.out.grown g)
    replace RlT := Lib.hid (RlT.out.grown g)
    replace RlI := Lib.hid (RlI.out.grown g)
    replace RlJ := Lib.hid (RlJ.out.grown g)
    replace RlK := Lib.hid (RlK.out.grown g)
    replace HG := Lib.hid (World.grownBy.trans HG.out g)
    clear g
    have RlL := Lib.hid hrow
    clear hrow
    have qc := Hc.out.1
    have qD := HD.out.1
    have qE := HE.out.1
    have qF := HF.out.1
    have qG2 := HG2.out.1
    have qT := HT.out.1
    have qIb := HIb.out.1
    have qJ := HJ.out.1
    have qK := HK.out.1
    have x0 := HX.out.c0
    have x1 := HX.out.c1
    have x2 := HX.out.c2
    have x3 := HX.out.c3
    have x4 := HX.out.c4
    go_upto_region 24 with fail
    clear qc qD qE qF qG2 qT qIb qJ qK x0 x1 x2 x3 x4
    have hb := CB.new hr
    have g := World.grownBy_alloc V29 (.cells #[.slice a29 gL.length c29] 32) none
    obtain ⟨V30, hV30⟩ : ∃ z, World.alloc V29 (.cells #[.slice a29 gL.length c29] 32) = z := ⟨_, rfl⟩
    rw [hV30] at g hb ⊢
    clear hV30 hr
    obtain ⟨bLb, hbb⟩ : ∃ b, V29.heap.size = b := ⟨_, rfl⟩
    rw [hbb] at hb ⊢
    clear hbb
    replace Hc := Lib.hid (Hc.out.grown g)
    replace HD := Lib.hid (HD.out.grown g)
    replace HE := Lib.hid (HE.out.grown g)
    replace HF := Lib.hid (HF.out.grown g)
    replace HG2 := Lib.hid (HG2.out.grown g)
    replace HT := Lib.hid (HT.out.grown g)
    replace HIb := Lib.hid (HIb.out.grown g)
    replace HJ := Lib.hid (HJ.out.grown g)
    replace HK := Lib.hid (HK.out.grown g)
    replace HX := Lib.hid (HX.out.grown g)
    replace HI := Lib.hid (HI.out.grown g)
    replace Rla := Lib.hid (Rla.out.grown g)
    replace Rlb := Lib.hid (Rlb.out.grown g)
    replace RlD := Lib.hid (RlD.out.grown g)
    replace RlE := Lib.hid (RlE.out.grown g)
    replace RlF := Lib.hid (RlF.out.grown g)
    replace RlG := Lib.hid (RlG.out.grown g)
    replace Rall := Lib.hid (Rall.out.grown g)
    replace RlT := Lib.hid (RlT.out.grown g)
    replace RlI := Lib.hid (RlI.out.grown g)
    replace RlJ := Lib.hid (RlJ.out.grown g)
    replace RlK := Lib.hid (RlK.out.grown g)
    replace RlL := Lib.hid (RlL.out.grown g)
    replace HG := Lib.hid (World.grownBy.trans HG.out g)
    clear g
    have HLb := Lib.hid hb
    clear hb
    have HNV := Lib.hid HN.out.2.2.2
    have HV20 := Lib.hid (show vals.length ≤ 1000 from by have := HN.out.2.2.2; have := HGN.out.2.2.2; omega)
    have qc := Hc.out.1
    have qD := HD.out.1
    have qE := HE.out.1
    have qF := HF.out.1
    have qG2 := HG2.out.1
    have qT := HT.out.1
    have qIb := HIb.out.1
    have qJ := HJ.out.1
    have qK := HK.out.1
    have qLb := HLb.out.1
    have x0 := HX.out.c0
    have x1 := HX.out.c1
    have x2 := HX.out.c2
    have x3 := HX.out.c3
    have x4 := HX.out.c4
    go_wp2_with fail
    clear qc qD qE qF qG2 qT qIb qJ qK qLb x0 x1 x2 x3 x4
    refine (number_n LX.out.2.2.2.2.1 HNV.out DX.out.2.2.2.2.2.1.numE GX.out.2.2.2.2.1.1 (by have := GX.out.2.2.2.2.1.2; omega) (by have := LX.out.2.2.2.2.1; have := HB.out; have := HNAB.out; omega) HV20.out (ok_le (by have := GX.out.2.2.2.2.1.2; omega) DX.out.2.2.2.2.2.1.2.2) ((HT.out).2.2) (RlT.out) (HI.out.v)).mono ?_
    rintro e V31 ⟨rfl, g⟩
    replace Hc := Lib.hid (Hc.out.grown g)
    replace HD := Lib.hid (HD.out.grown g)
    replace HE := Lib.hid (HE.out.grown g)
    replace HF := Lib.hid (HF.out.grown g)
    replace HG2 := Lib.hid (HG2.out.grown g)
    replace HT := Lib.hid (HT.out.grown g)
    replace HIb := Lib.hid (HIb.out.grown g)
    replace HJ := Lib.hid (HJ.out.grown g)
    replace HK := Lib.hid (HK.out.grown g)
    replace HLb := Lib.hid (HLb.out.grown g)
    replace HX := Lib.hid (HX.out.grown g)
    replace HI := Lib.hid (HI.out.grown g)
    replace Rla := Lib.hid (Rla.out.grown g)
    replace Rlb := Lib.hid (Rlb.out.grown g)
    replace RlD := Lib.hid (RlD.out.grown g)
    replace RlE := Lib.hid (RlE.out.grown g)
    replace RlF := Lib.hid (RlF.out.grown g)
    replace RlG := Lib.hid (RlG.out.grown g)
    replace Rall := Lib.hid (Rall.out.grown g)
    replace RlT := Lib.hid (RlT.out.grown g)
    replace RlI := Lib.hid (RlI.out.grown g)
    replace RlJ := Lib.hid (RlJ.out.grown g)
    replace RlK := Lib.hid (RlK.out.grown g)
    replace RlL := Lib.hid (RlL.out.grown g)
    replace HG := Lib.hid (World.grownBy.trans HG.out g)
    clear g
    have w9 : IntKind.i64.wrap ((n : Int) + (m : Int)) = (nm : Int) := by have := HNM.out; rw [IntWalk.i64_in _ (by omega)]; omega
    have qc := Hc.out.1
    have qD := HD.out.1
    have qE := HE.out.1
    have qF := HF.out.1
    have qG2 := HG2.out.1
    have qT := HT.out.1
    have qIb := HIb.out.1
    have qJ := HJ.out.1
    have qK := HK.out.1
    have qLb := HLb.out.1
    have x0 := HX.out.c0
    have x1 := HX.out.c1
    have x2 := HX.out.c2
    have x3 := HX.out.c3
    have x4 := HX.out.c4
    go_upto_region 25 with fail
    clear qc qD qE qF qG2 qT qIb qJ qK qLb x0 x1 x2 x3 x4
    simp only [List.append_eq, List.cons_append, List.nil_append]
    have HS := Lib.hid (fun (Wh : World) (hWh : V31.grownBy Wh none) => (⟨hWh, hWh.cell HF.out.1 (by simp), hWh.cell HG2.out.1 (by simp), hWh.cell HIb.out.1 (by simp), hWh.cell HD.out.1 (by simp), hWh.cell HJ.out.1 (by simp), hWh.cell HLb.out.1 (by simp), hWh.cell HE.out.1 (by simp), hWh.cell HX.out.c3 (by simp)⟩ : (fun Wh : World => V31.grownBy Wh none ∧ Wh.cell? ⟨bF, 0, none⟩ = some (.slice a13 gF.length c13) ∧ Wh.cell? ⟨bG2, 0, none⟩ = some (.slice a15 gG.length c15) ∧ Wh.cell? ⟨bIb, 0, none⟩ = some (.slice a19 gI.length c19) ∧ Wh.cell? ⟨bD, 0, none⟩ = some (.slice a5 gD.length c5) ∧ Wh.cell? ⟨bJ, 0, none⟩ = some (.slice a23 gJ.length c23) ∧ Wh.cell? ⟨bLb, 0, none⟩ = some (.slice a29 gL.length c29) ∧ Wh.cell? ⟨bE, 0, none⟩ = some (.slice a9 gE.length c9) ∧ Wh.cell? ⟨bX, 3, none⟩ = some (.slice va nv vc)) Wh))
    have hdr : V31.grownBy V31.drew none := ⟨rfl, rfl, rfl, Nat.le_refl _, fun _ _ _ => rfl⟩
    refine wp_region_held_drew (S := (fun Wh : World => V31.grownBy Wh none ∧ Wh.cell? ⟨bF, 0, none⟩ = some (.slice a13 gF.length c13) ∧ Wh.cell? ⟨bG2, 0, none⟩ = some (.slice a15 gG.length c15) ∧ Wh.cell? ⟨bIb, 0, none⟩ = some (.slice a19 gI.length c19) ∧ Wh.cell? ⟨bD, 0, none⟩ = some (.slice a5 gD.length c5) ∧ Wh.cell? ⟨bJ, 0, none⟩ = some (.slice a23 gJ.length c23) ∧ Wh.cell? ⟨bLb, 0, none⟩ = some (.slice a29 gL.length c29) ∧ Wh.cell? ⟨bE, 0, none⟩ = some (.slice a9 gE.length c9) ∧ Wh.cell? ⟨bX, 3, none⟩ = some (.slice va nv vc))) (by kernel_rfl) (HS.out _ hdr) (fun hHeld => ?_)
    refine wpAnyH_take (i := 0) (oi := { dst := some 147, op := Op.move (Operand.tmp 3), type := 4, pos := "law.go:264", after := #[], guard := none }) (v := ?_) rfl (by kernel_rfl) (by kernel_rfl) (by kernel_rfl) (fun _ _ _ h => h) (Or.inl ⟨by rfl, ?_⟩) (by assumption) ?_
    rotate_left 1
    · (intro W hSW; (try dsimp only at hSW); first | (go_simp; done) | (go_simp; with_reducible rfl))
    try simp only [Act.put, List.setIfInBounds_toArray, List.set_cons_zero, List.set_cons_succ]
    refine wpAnyH_take (i := 1) (oi := { dst := some 148, op := Op.move (Operand.tmp 147), type := 4, pos := "law.go:264", after := #[{ on := 0, ground := Ground.data }], guard := none }) (v := ?_) rfl (by kernel_rfl) (by kernel_rfl) (by kernel_rfl) (fun _ _ _ h => h) (Or.inl ⟨by rfl, ?_⟩) (by assumption) ?_
    rotate_left 1
    · (intro W hSW; (try dsimp only at hSW); first | (go_simp; done) | (go_simp; with_reducible rfl))
    try simp only [Act.put, List.setIfInBounds_toArray, List.set_cons_zero, List.set_cons_succ]
    refine wpAnyH_take (i := 2) (oi := { dst := some 149, op := Op.move (Operand.tmp 12), type := 33, pos := "law.go:264", after := #[{ on := 1, ground := Ground.guard }], guard := some (1, true) }) (v := ?_) rfl (by kernel_rfl) (by kernel_rfl) (by kernel_rfl) (fun _ _ _ h => h) (Or.inl ⟨by rfl, ?_⟩) (by assumption) ?_
    rotate_left 1
    · (intro W hSW; (try dsimp only at hSW); first | (go_simp; done) | (go_simp; with_reducible rfl))
    try simp only [Act.put, List.setIfInBounds_toArray, List.set_cons_zero, List.set_cons_succ]
    refine wpAnyH_take (i := 3) (oi := { dst := some 150, op := Op.call { callee := Callee.builtin Builtin.len, args := #[Operand.tmp 149], argTypes := #[33] }, type := 3, pos := "law.go:264", after := #[{ on := 2, ground := Ground.data }, { on := 1, ground := Ground.guard }], guard := some (1, true) }) (v := ?_) rfl (by kernel_rfl) (by kernel_rfl) (by kernel_rfl) (fun _ _ _ h => h) (Or.inl ⟨by rfl, ?_⟩) (by assumption) ?_
    rotate_left 1
    · (intro W hSW; (try dsimp only at hSW); first | (go_simp; done) | (go_simp; with_reducible rfl))
    try simp only [Act.put, List.setIfInBounds_toArray, List.set_cons_zero, List.set_cons_succ]
    refine wpAnyH_take (i := 4) (oi := { dst := some 151, op := Op.move (Operand.tmp 15), type := 33, pos := "law.go:264", after := #[{ on := 1, ground := Ground.guard }], guard := some (1, true) }) (v := ?_) rfl (by kernel_rfl) (by kernel_rfl) (by kernel_rfl) (fun _ _ _ h => h) (Or.inl ⟨by rfl, ?_⟩) (by assumption) ?_
    rotate_left 1
    · (intro W hSW; (try dsimp only at hSW); first | (go_simp; done) | (go_simp; with_reducible rfl))
    try simp only [Act.put, List.setIfInBounds_toArray, List.set_cons_zero, List.set_cons_succ]
    refine wpAnyH_take (i := 5) (oi := { dst := some 152, op := Op.call { callee := Callee.builtin Builtin.len, args := #[Operand.tmp 151], argTypes := #[33] }, type := 3, pos := "law.go:264", after := #[{ on := 4, ground := Ground.data }, { on := 1, ground := Ground.guard }], guard := some (1, true) }) (v := ?_) rfl (by kernel_rfl) (by kernel_rfl) (by kernel_rfl) (fun _ _ _ h => h) (Or.inl ⟨by rfl, ?_⟩) (by assumption) ?_
    rotate_left 1
    · (intro W hSW; (try dsimp only at hSW); first | (go_simp; done) | (go_simp; with_reducible rfl))
    try simp only [Act.put, List.setIfInBounds_toArray, List.set_cons_zero, List.set_cons_succ]
    refine wpAnyH_take (i := 6) (oi := { dst := some 153, op := Op.binOp BinOp.eql 3 (Operand.tmp 150) (Operand.tmp 152) 3, type := 4, pos := "law.go:264", after := #[{ on := 3, ground := Ground.data }, { on := 5, ground := Ground.data }, { on := 1, ground := Ground.guard }], guard := some (1, true) }) (v := ?_) rfl (by kernel_rfl) (by kernel_rfl) (by kernel_rfl) (fun _ _ _ h => h) (Or.inl ⟨by rfl, ?_⟩) (by assumption) ?_
    rotate_left 1
    · (intro W hSW; (try dsimp only at hSW); first | (go_simp; done) | (go_simp; with_reducible rfl))
    try simp only [Act.put, List.setIfInBounds_toArray, List.set_cons_zero, List.set_cons_succ]
    refine wpAnyH_take (i := 7) (oi := { dst := some 154, op := Op.pick (Operand.tmp 148) (Operand.tmp 153) (Operand.const (Value.bool false)), type := 4, pos := "law.go:264", after := #[{ on := 1, ground := Ground.data }, { on := 6, ground := Ground.data }], guard := none }) (v := ?_) rfl (by kernel_rfl) (by kernel_rfl) (by kernel_rfl) (fun _ _ _ h => h) (Or.inl ⟨by rfl, ?_⟩) (by assumption) ?_
    rotate_left 1
    · (intro W hSW; (try dsimp only at hSW); first | (go_simp; done) | (go_simp; with_reducible rfl))
    try simp only [Act.put, List.setIfInBounds_toArray, List.set_cons_zero, List.set_cons_succ]
    refine wpAnyH_take (i := 8) (oi := { dst := some 155, op := Op.move (Operand.tmp 154), type := 4, pos := "law.go:264", after := #[{ on := 7, ground := Ground.data }, { on := 1, ground := Ground.chain }], guard := none }) (v := ?_) rfl (by kernel_rfl) (by kernel_rfl) (by kernel_rfl) (fun _ _ _ h => h) (Or.inl ⟨by rfl, ?_⟩) (by assumption) ?_
    rotate_left 1
    · (intro W hSW; (try dsimp only at hSW); first | (go_simp; done) | (go_simp; with_reducible rfl))
    try simp only [Act.put, List.setIfInBounds_toArray, List.set_cons_zero, List.set_cons_succ]
    refine wpAnyH_take (i := 9) (oi := { dst := some 156, op := Op.load 32 (Operand.tmp 11), type := 32, pos := "law.go:264", after := #[{ on := 8, ground := Ground.guard }], guard := some (8, true) }) (v := ?_) rfl (by kernel_rfl) (by kernel_rfl) (by kernel_rfl) (fun _ _ _ h => h) (Or.inl ⟨by rfl, ?_⟩) (by assumption) ?_
    rotate_left 1
    · (intro W hSW; (try dsimp only at hSW); first | (go_simp; done) | (go_simp; with_reducible rfl))
    try simp only [Act.put, List.setIfInBounds_toArray, List.set_cons_zero, List.set_cons_succ]
    refine wpAnyH_take (i := 10) (oi := { dst := some 157, op := Op.move (Operand.tmp 12), type := 33, pos := "law.go:264", after := #[{ on := 8, ground := Ground.guard }], guard := some (8, true) }) (v := ?_) rfl (by kernel_rfl) (by kernel_rfl) (by kernel_rfl) (fun _ _ _ h => h) (Or.inl ⟨by rfl, ?_⟩) (by assumption) ?_
    rotate_left 1
    · (intro W hSW; (try dsimp only at hSW); first | (go_simp; done) | (go_simp; with_reducible rfl))
    try simp only [Act.put, List.setIfInBounds_toArray, List.set_cons_zero, List.set_cons_succ]
    refine wpAnyH_take (i := 11) (oi := { dst := some 158, op := Op.fieldAddr 27 (Operand.tmp 1) 3, type := 0, pos := "law.go:264", after := #[{ on := 8, ground := Ground.guard }], guard := some (8, true) }) (v := ?_) rfl (by kernel_rfl) (by kernel_rfl) (by kernel_rfl) (fun _ _ _ h => h) (Or.inl ⟨by rfl, ?_⟩) (by assumption) ?_
    rotate_left 1
    · (intro W hSW; (try dsimp only at hSW); first | (go_simp; done) | (go_simp; with_reducible rfl))
    try simp only [Act.put, List.setIfInBounds_toArray, List.set_cons_zero, List.set_cons_succ]
    refine wpAnyH_take (i := 12) (oi := { dst := some 159, op := Op.load 24 (Operand.tmp 158), type := 24, pos := "law.go:264", after := #[{ on := 11, ground := Ground.data }, { on := 8, ground := Ground.guard }], guard := some (8, true) }) (v := ?_) rfl (by kernel_rfl) (by kernel_rfl) (by kernel_rfl) (fun _ _ _ h => h) (Or.inl ⟨by rfl, ?_⟩) (by assumption) ?_
    rotate_left 1
    · (intro W hSW; (try dsimp only at hSW); first | (go_simp; done) | (go_simp; with_reducible rfl))
    try simp only [Act.put, List.setIfInBounds_toArray, List.set_cons_zero, List.set_cons_succ]
    refine wpAnyH_take (i := 13) (oi := { dst := some 160, op := Op.move (Operand.tmp 26), type := 3, pos := "law.go:264", after := #[{ on := 8, ground := Ground.guard }], guard := some (8, true) }) (v := ?_) rfl (by kernel_rfl) (by kernel_rfl) (by kernel_rfl) (fun _ _ _ h => h) (Or.inl ⟨by rfl, ?_⟩) (by assumption) ?_
    rotate_left 1
    · (intro W hSW; (try dsimp only at hSW); first | (go_simp; done) | (go_simp; with_reducible rfl))
    try simp only [Act.put, List.setIfInBounds_toArray, List.set_cons_zero, List.set_cons_succ]
    refine wpAnyH_ready (rs := [14]) (by kernel_rfl) (by simp) ?_
    refine (AllReadyH.cons (o := { dst := some 161, op := Op.call { callee := Callee.value (Operand.func 16), args := #[Operand.tmp 156, Operand.tmp 157, Operand.tmp 159, Operand.tmp 160], argTypes := #[32, 33, 24, 3] }, type := 4, pos := "law.go:264", after := #[{ on := 9, ground := Ground.data }, { on := 10, ground := Ground.data }, { on := 12, ground := Ground.data }, { on := 13, ground := Ground.data }, { on := 8, ground := Ground.chain }, { on := 8, ground := Ground.guard }], guard := some (8, true) }) rfl (fun K hK => ?_) AllReadyH.nil)
    rw [if_pos (by rfl)]
    go_simp
    go_at_call 16
    refine (unary_n LX.out.2.2.1 HNV.out DX.out.2.2.2.1.un GX.out.2.2.1.1 (by have := GX.out.2.2.1.2; omega) (by have := LX.out.2.2.1; have := HB.out; have := HNAB.out; omega) HV20.out (ok_le (by have := GX.out.2.2.1.2; omega) DX.out.2.2.2.1.2.2) (by have := HNM.out; omega) ((HF.out.grown hdr).2.2) (RlF.out.grown hdr) (HI.out.v.grown hdr)).mono ?_
    rintro e wc1 ⟨rfl, gc1⟩
    have hgr1 := World.grownBy.trans hdr gc1
    go_wp2_with fail
    refine hK.out _ _ (HS.out _ hgr1) (fun hHeld => ?_)
    clear hK K
    try simp only [Act.put, List.setIfInBounds_toArray, List.set_cons_zero, List.set_cons_succ]
    refine wpAnyH_take (i := 15) (oi := { dst := some 162, op := Op.pick (Operand.tmp 155) (Operand.tmp 161) (Operand.const (Value.bool false)), type := 4, pos := "law.go:264", after := #[{ on := 8, ground := Ground.data }, { on := 14, ground := Ground.data }], guard := none }) (v := ?_) rfl (by kernel_rfl) (by kernel_rfl) (by kernel_rfl) (fun _ _ _ h => h) (Or.inl ⟨by rfl, ?_⟩) (by assumption) ?_
    rotate_left 1
    · (intro W hSW; (try dsimp only at hSW); first | (go_simp; done) | (go_simp; with_reducible rfl))
    try simp only [Act.put, List.setIfInBounds_toArray, List.set_cons_zero, List.set_cons_succ]
    refine wpAnyH_take (i := 16) (oi := { dst := some 163, op := Op.move (Operand.tmp 162), type := 4, pos := "law.go:264", after := #[{ on := 15, ground := Ground.data }, { on := 14, ground := Ground.chain }], guard := none }) (v := ?_) rfl (by kernel_rfl) (by kernel_rfl) (by kernel_rfl) (fun _ _ _ h => h) (Or.inl ⟨by rfl, ?_⟩) (by assumption) ?_
    rotate_left 1
    · (intro W hSW; (try dsimp only at hSW); first | (go_simp; done) | (go_simp; with_reducible rfl))
    try simp only [Act.put, List.setIfInBounds_toArray, List.set_cons_zero, List.set_cons_succ]
    refine wpAnyH_take (i := 17) (oi := { dst := some 164, op := Op.load 32 (Operand.tmp 13), type := 32, pos := "law.go:264", after := #[{ on := 16, ground := Ground.guard }], guard := some (16, true) }) (v := ?_) rfl (by kernel_rfl) (by kernel_rfl) (by kernel_rfl) (fun _ _ _ h => h) (Or.inl ⟨by rfl, ?_⟩) (by assumption) ?_
    rotate_left 1
    · (intro W hSW; (try dsimp only at hSW); first | (go_simp; done) | (go_simp; with_reducible rfl))
    try simp only [Act.put, List.setIfInBounds_toArray, List.set_cons_zero, List.set_cons_succ]
    refine wpAnyH_take (i := 18) (oi := { dst := some 165, op := Op.move (Operand.tmp 14), type := 33, pos := "law.go:264", after := #[{ on := 16, ground := Ground.guard }], guard := some (16, true) }) (v := ?_) rfl (by kernel_rfl) (by kernel_rfl) (by kernel_rfl) (fun _ _ _ h => h) (Or.inl ⟨by rfl, ?_⟩) (by assumption) ?_
    rotate_left 1
    · (intro W hSW; (try dsimp only at hSW); first | (go_simp; done) | (go_simp; with_reducible rfl))
    try simp only [Act.put, List.setIfInBounds_toArray, List.set_cons_zero, List.set_cons_succ]
    refine wpAnyH_take (i := 19) (oi := { dst := some 166, op := Op.fieldAddr 27 (Operand.tmp 1) 3, type := 0, pos := "law.go:264", after := #[{ on := 16, ground := Ground.guard }], guard := some (16, true) }) (v := ?_) rfl (by kernel_rfl) (by kernel_rfl) (by kernel_rfl) (fun _ _ _ h => h) (Or.inl ⟨by rfl, ?_⟩) (by assumption) ?_
    rotate_left 1
    · (intro W hSW; (try dsimp only at hSW); first | (go_simp; done) | (go_simp; with_reducible rfl))
    try simp only [Act.put, List.setIfInBounds_toArray, List.set_cons_zero, List.set_cons_succ]
    refine wpAnyH_take (i := 20) (oi := { dst := some 167, op := Op.load 24 (Operand.tmp 166), type := 24, pos := "law.go:264", after := #[{ on := 19, ground := Ground.data }, { on := 16, ground := Ground.guard }], guard := some (16, true) }) (v := ?_) rfl (by kernel_rfl) (by kernel_rfl) (by kernel_rfl) (fun _ _ _ h => h) (Or.inl ⟨by rfl, ?_⟩) (by assumption) ?_
    rotate_left 1
    · (intro W hSW; (try dsimp only at hSW); first | (go_simp; done) | (go_simp; with_reducible rfl))
    try simp only [Act.put, List.setIfInBounds_toArray, List.set_cons_zero, List.set_cons_succ]
    refine wpAnyH_take (i := 21) (oi := { dst := some 168, op := Op.move (Operand.tmp 26), type := 3, pos := "law.go:264", after := #[{ on := 16, ground := Ground.guard }], guard := some (16, true) }) (v := ?_) rfl (by kernel_rfl) (by kernel_rfl) (by kernel_rfl) (fun _ _ _ h => h) (Or.inl ⟨by rfl, ?_⟩) (by assumption) ?_
    rotate_left 1
    · (intro W hSW; (try dsimp only at hSW); first | (go_simp; done) | (go_simp; with_reducible rfl))
    try simp only [Act.put, List.setIfInBounds_toArray, List.set_cons_zero, List.set_cons_succ]
    refine wpAnyH_ready (rs := [22]) (by kernel_rfl) (by simp) ?_
    refine (AllReadyH.cons (o := { dst := some 169, op := Op.call { callee := Callee.value (Operand.func 16), args := #[Operand.tmp 164, Operand.tmp 165, Operand.tmp 167, Operand.tmp 168], argTypes := #[32, 33, 24, 3] }, type := 4, pos := "law.go:264", after := #[{ on := 17, ground := Ground.data }, { on := 18, ground := Ground.data }, { on := 20, ground := Ground.data }, { on := 21, ground := Ground.data }, { on := 16, ground := Ground.chain }, { on := 16, ground := Ground.guard }], guard := some (16, true) }) rfl (fun K hK => ?_) AllReadyH.nil)
    rw [if_pos (by rfl)]
    go_simp
    go_at_call 16
    refine (unary_n LX.out.2.2.2.1 HNV.out DX.out.2.2.2.2.1.un GX.out.2.2.2.1.1 (by have := GX.out.2.2.2.1.2; omega) (by have := LX.out.2.2.2.1; have := HB.out; have := HNAB.out; omega) HV20.out (ok_le (by have := GX.out.2.2.2.1.2; omega) DX.out.2.2.2.2.1.2.2) (by have := HNM.out; omega) ((HG2.out.grown hgr1).2.2) (RlG.out.grown hgr1) (HI.out.v.grown hgr1)).mono ?_
    rintro e wc2 ⟨rfl, gc2⟩
    have hgr2 := World.grownBy.trans hgr1 gc2
    go_wp2_with fail
    refine hK.out _ _ (HS.out _ hgr2) (fun hHeld => ?_)
    clear hK K
    try simp only [Act.put, List.setIfInBounds_toArray, List.set_cons_zero, List.set_cons_succ]
    refine wpAnyH_take (i := 23) (oi := { dst := some 170, op := Op.pick (Operand.tmp 163) (Operand.tmp 169) (Operand.const (Value.bool false)), type := 4, pos := "law.go:264", after := #[{ on := 16, ground := Ground.data }, { on := 22, ground := Ground.data }], guard := none }) (v := ?_) rfl (by kernel_rfl) (by kernel_rfl) (by kernel_rfl) (fun _ _ _ h => h) (Or.inl ⟨by rfl, ?_⟩) (by assumption) ?_
    rotate_left 1
    · (intro W hSW; (try dsimp only at hSW); first | (go_simp; done) | (go_simp; with_reducible rfl))
    try simp only [Act.put, List.setIfInBounds_toArray, List.set_cons_zero, List.set_cons_succ]
    refine wpAnyH_take (i := 24) (oi := { dst := some 171, op := Op.move (Operand.tmp 170), type := 4, pos := "law.go:264", after := #[{ on := 23, ground := Ground.data }, { on := 22, ground := Ground.chain }], guard := none }) (v := ?_) rfl (by kernel_rfl) (by kernel_rfl) (by kernel_rfl) (fun _ _ _ h => h) (Or.inl ⟨by rfl, ?_⟩) (by assumption) ?_
    rotate_left 1
    · (intro W hSW; (try dsimp only at hSW); first | (go_simp; done) | (go_simp; with_reducible rfl))
    try simp only [Act.put, List.setIfInBounds_toArray, List.set_cons_zero, List.set_cons_succ]
    refine wpAnyH_take (i := 25) (oi := { dst := some 172, op := Op.load 32 (Operand.tmp 18), type := 32, pos := "law.go:264", after := #[{ on := 24, ground := Ground.guard }], guard := some (24, true) }) (v := ?_) rfl (by kernel_rfl) (by kernel_rfl) (by kernel_rfl) (fun _ _ _ h => h) (Or.inl ⟨by rfl, ?_⟩) (by assumption) ?_
    rotate_left 1
    · (intro W hSW; (try dsimp only at hSW); first | (go_simp; done) | (go_simp; with_reducible rfl))
    try simp only [Act.put, List.setIfInBounds_toArray, List.set_cons_zero, List.set_cons_succ]
    refine wpAnyH_take (i := 26) (oi := { dst := some 173, op := Op.move (Operand.tmp 19), type := 33, pos := "law.go:264", after := #[{ on := 24, ground := Ground.guard }], guard := some (24, true) }) (v := ?_) rfl (by kernel_rfl) (by kernel_rfl) (by kernel_rfl) (fun _ _ _ h => h) (Or.inl ⟨by rfl, ?_⟩) (by assumption) ?_
    rotate_left 1
    · (intro W hSW; (try dsimp only at hSW); first | (go_simp; done) | (go_simp; with_reducible rfl))
    try simp only [Act.put, List.setIfInBounds_toArray, List.set_cons_zero, List.set_cons_succ]
    refine wpAnyH_take (i := 27) (oi := { dst := some 174, op := Op.fieldAddr 27 (Operand.tmp 1) 3, type := 0, pos := "law.go:264", after := #[{ on := 24, ground := Ground.guard }], guard := some (24, true) }) (v := ?_) rfl (by kernel_rfl) (by kernel_rfl) (by kernel_rfl) (fun _ _ _ h => h) (Or.inl ⟨by rfl, ?_⟩) (by assumption) ?_
    rotate_left 1
    · (intro W hSW; (try dsimp only at hSW); first | (go_simp; done) | (go_simp; with_reducible rfl))
    try simp only [Act.put, List.setIfInBounds_toArray, List.set_cons_zero, List.set_cons_succ]
    refine wpAnyH_take (i := 28) (oi := { dst := some 175, op := Op.load 24 (Operand.tmp 174), type := 24, pos := "law.go:264", after := #[{ on := 27, ground := Ground.data }, { on := 24, ground := Ground.guard }], guard := some (24, true) }) (v := ?_) rfl (by kernel_rfl) (by kernel_rfl) (by kernel_rfl) (fun _ _ _ h => h) (Or.inl ⟨by rfl, ?_⟩) (by assumption) ?_
    rotate_left 1
    · (intro W hSW; (try dsimp only at hSW); first | (go_simp; done) | (go_simp; with_reducible rfl))
    try simp only [Act.put, List.setIfInBounds_toArray, List.set_cons_zero, List.set_cons_succ]
    refine wpAnyH_take (i := 29) (oi := { dst := some 176, op := Op.load 32 (Operand.tmp 7), type := 32, pos := "law.go:264", after := #[{ on := 24, ground := Ground.guard }], guard := some (24, true) }) (v := ?_) rfl (by kernel_rfl) (by kernel_rfl) (by kernel_rfl) (fun _ _ _ h => h) (Or.inl ⟨by rfl, ?_⟩) (by assumption) ?_
    rotate_left 1
    · (intro W hSW; (try dsimp only at hSW); first | (go_simp; done) | (go_simp; with_reducible rfl))
    try simp only [Act.put, List.setIfInBounds_toArray, List.set_cons_zero, List.set_cons_succ]
    refine wpAnyH_take (i := 30) (oi := { dst := some 177, op := Op.move (Operand.tmp 8), type := 33, pos := "law.go:264", after := #[{ on := 24, ground := Ground.guard }], guard := some (24, true) }) (v := ?_) rfl (by kernel_rfl) (by kernel_rfl) (by kernel_rfl) (fun _ _ _ h => h) (Or.inl ⟨by rfl, ?_⟩) (by assumption) ?_
    rotate_left 1
    · (intro W hSW; (try dsimp only at hSW); first | (go_simp; done) | (go_simp; with_reducible rfl))
    try simp only [Act.put, List.setIfInBounds_toArray, List.set_cons_zero, List.set_cons_succ]
    refine wpAnyH_take (i := 31) (oi := { dst := some 178, op := Op.fieldAddr 27 (Operand.tmp 1) 3, type := 0, pos := "law.go:264", after := #[{ on := 24, ground := Ground.guard }], guard := some (24, true) }) (v := ?_) rfl (by kernel_rfl) (by kernel_rfl) (by kernel_rfl) (fun _ _ _ h => h) (Or.inl ⟨by rfl, ?_⟩) (by assumption) ?_
    rotate_left 1
    · (intro W hSW; (try dsimp only at hSW); first | (go_simp; done) | (go_simp; with_reducible rfl))
    try simp only [Act.put, List.setIfInBounds_toArray, List.set_cons_zero, List.set_cons_succ]
    refine wpAnyH_take (i := 32) (oi := { dst := some 179, op := Op.load 24 (Operand.tmp 178), type := 24, pos := "law.go:264", after := #[{ on := 31, ground := Ground.data }, { on := 24, ground := Ground.guard }], guard := some (24, true) }) (v := ?_) rfl (by kernel_rfl) (by kernel_rfl) (by kernel_rfl) (fun _ _ _ h => h) (Or.inl ⟨by rfl, ?_⟩) (by assumption) ?_
    rotate_left 1
    · (intro W hSW; (try dsimp only at hSW); first | (go_simp; done) | (go_simp; with_reducible rfl))
    try simp only [Act.put, List.setIfInBounds_toArray, List.set_cons_zero, List.set_cons_succ]
    refine wpAnyH_ready (rs := [33]) (by kernel_rfl) (by simp) ?_
    refine (AllReadyH.cons (o := { dst := some 180, op := Op.call { callee := Callee.value (Operand.func 13), args := #[Operand.tmp 176, Operand.tmp 177, Operand.tmp 179], argTypes := #[32, 33, 24] }, type := 3, pos := "law.go:264", after := #[{ on := 29, ground := Ground.data }, { on := 30, ground := Ground.data }, { on := 32, ground := Ground.data }, { on := 24, ground := Ground.chain }, { on := 24, ground := Ground.guard }], guard := some (24, true) }) rfl (fun K hK => ?_) AllReadyH.nil)
    rw [if_pos (by rfl)]
    go_simp
    go_at_call 13
    refine (number_n LX.out.1 HNV.out DX.out.1.numE GX.out.1.1 (by have := GX.out.1.2; omega) (by have := LX.out.1; have := HB.out; have := HNAB.out; omega) HV20.out (ok_le (by have := GX.out.1.2; omega) DX.out.1.2.2) ((HD.out.grown hgr2).2.2) (RlD.out.grown hgr2) (HI.out.v.grown hgr2)).mono ?_
    rintro e wc3 ⟨rfl, gc3⟩
    have hgr3 := World.grownBy.trans hgr2 gc3
    go_wp2_with fail
    refine hK.out _ _ (HS.out _ hgr3) (fun hHeld => ?_)
    clear hK K
    try simp only [Act.put, List.setIfInBounds_toArray, List.set_cons_zero, List.set_cons_succ]
    refine wpAnyH_ready (rs := [34]) (by kernel_rfl) (by simp) ?_
    refine (AllReadyH.cons (o := { dst := some 181, op := Op.call { callee := Callee.value (Operand.func 16), args := #[Operand.tmp 172, Operand.tmp 173, Operand.tmp 175, Operand.tmp 180], argTypes := #[32, 33, 24, 3] }, type := 4, pos := "law.go:264", after := #[{ on := 25, ground := Ground.data }, { on := 26, ground := Ground.data }, { on := 28, ground := Ground.data }, { on := 33, ground := Ground.data }, { on := 33, ground := Ground.chain }, { on := 24, ground := Ground.guard }], guard := some (24, true) }) rfl (fun K hK => ?_) AllReadyH.nil)
    rw [if_pos (by rfl)]
    go_simp
    go_at_call 16
    refine (unary_n LX.out.2.2.2.2.2.1 HNV.out DX.out.2.2.2.2.2.2.1.un GX.out.2.2.2.2.2.1.1 (by have := GX.out.2.2.2.2.2.1.2; omega) (by have := LX.out.2.2.2.2.2.1; have := HB.out; have := HNAB.out; omega) HV20.out (ok_le (by have := GX.out.2.2.2.2.2.1.2; omega) DX.out.2.2.2.2.2.2.1.2.2) (by have := HNM.out; omega) ((HIb.out.grown hgr3).2.2) (RlI.out.grown hgr3) (HI.out.v.grown hgr3)).mono ?_
    rintro e wc4 ⟨rfl, gc4⟩
    have hgr4 := World.grownBy.trans hgr3 gc4
    go_wp2_with fail
    refine hK.out _ _ (HS.out _ hgr4) (fun hHeld => ?_)
    clear hK K
    try simp only [Act.put, List.setIfInBounds_toArray, List.set_cons_zero, List.set_cons_succ]
    refine wpAnyH_take (i := 35) (oi := { dst := some 182, op := Op.pick (Operand.tmp 171) (Operand.tmp 181) (Operand.const (Value.bool false)), type := 4, pos := "law.go:264", after := #[{ on := 24, ground := Ground.data }, { on := 34, ground := Ground.data }], guard := none }) (v := ?_) rfl (by kernel_rfl) (by kernel_rfl) (by kernel_rfl) (fun _ _ _ h => h) (Or.inl ⟨by rfl, ?_⟩) (by assumption) ?_
    rotate_left 1
    · (intro W hSW; (try dsimp only at hSW); first | (go_simp; done) | (go_simp; with_reducible rfl))
    try simp only [Act.put, List.setIfInBounds_toArray, List.set_cons_zero, List.set_cons_succ]
    refine wpAnyH_take (i := 36) (oi := { dst := some 183, op := Op.move (Operand.tmp 182), type := 4, pos := "law.go:264", after := #[{ on := 35, ground := Ground.data }, { on := 34, ground := Ground.chain }], guard := none }) (v := ?_) rfl (by kernel_rfl) (by kernel_rfl) (by kernel_rfl) (fun _ _ _ h => h) (Or.inl ⟨by rfl, ?_⟩) (by assumption) ?_
    rotate_left 1
    · (intro W hSW; (try dsimp only at hSW); first | (go_simp; done) | (go_simp; with_reducible rfl))
    try simp only [Act.put, List.setIfInBounds_toArray, List.set_cons_zero, List.set_cons_succ]
    refine wpAnyH_take (i := 37) (oi := { dst := some 184, op := Op.load 32 (Operand.tmp 20), type := 32, pos := "law.go:264", after := #[{ on := 36, ground := Ground.guard }], guard := some (36, true) }) (v := ?_) rfl (by kernel_rfl) (by kernel_rfl) (by kernel_rfl) (fun _ _ _ h => h) (Or.inl ⟨by rfl, ?_⟩) (by assumption) ?_
    rotate_left 1
    · (intro W hSW; (try dsimp only at hSW); first | (go_simp; done) | (go_simp; with_reducible rfl))
    try simp only [Act.put, List.setIfInBounds_toArray, List.set_cons_zero, List.set_cons_succ]
    refine wpAnyH_take (i := 38) (oi := { dst := some 185, op := Op.move (Operand.tmp 21), type := 33, pos := "law.go:264", after := #[{ on := 36, ground := Ground.guard }], guard := some (36, true) }) (v := ?_) rfl (by kernel_rfl) (by kernel_rfl) (by kernel_rfl) (fun _ _ _ h => h) (Or.inl ⟨by rfl, ?_⟩) (by assumption) ?_
    rotate_left 1
    · (intro W hSW; (try dsimp only at hSW); first | (go_simp; done) | (go_simp; with_reducible rfl))
    try simp only [Act.put, List.setIfInBounds_toArray, List.set_cons_zero, List.set_cons_succ]
    refine wpAnyH_take (i := 39) (oi := { dst := some 186, op := Op.fieldAddr 27 (Operand.tmp 1) 3, type := 0, pos := "law.go:264", after := #[{ on := 36, ground := Ground.guard }], guard := some (36, true) }) (v := ?_) rfl (by kernel_rfl) (by kernel_rfl) (by kernel_rfl) (fun _ _ _ h => h) (Or.inl ⟨by rfl, ?_⟩) (by assumption) ?_
    rotate_left 1
    · (intro W hSW; (try dsimp only at hSW); first | (go_simp; done) | (go_simp; with_reducible rfl))
    try simp only [Act.put, List.setIfInBounds_toArray, List.set_cons_zero, List.set_cons_succ]
    refine wpAnyH_take (i := 40) (oi := { dst := some 187, op := Op.load 24 (Operand.tmp 186), type := 24, pos := "law.go:264", after := #[{ on := 39, ground := Ground.data }, { on := 36, ground := Ground.guard }], guard := some (36, true) }) (v := ?_) rfl (by kernel_rfl) (by kernel_rfl) (by kernel_rfl) (fun _ _ _ h => h) (Or.inl ⟨by rfl, ?_⟩) (by assumption) ?_
    rotate_left 1
    · (intro W hSW; (try dsimp only at hSW); first | (go_simp; done) | (go_simp; with_reducible rfl))
    try simp only [Act.put, List.setIfInBounds_toArray, List.set_cons_zero, List.set_cons_succ]
    refine wpAnyH_take (i := 42) (oi := { dst := some 189, op := Op.load 32 (Operand.tmp 24), type := 32, pos := "law.go:264", after := #[{ on := 36, ground := Ground.guard }], guard := some (36, true) }) (v := ?_) rfl (by kernel_rfl) (by kernel_rfl) (by kernel_rfl) (fun _ _ _ h => h) (Or.inl ⟨by rfl, ?_⟩) (by assumption) ?_
    rotate_left 1
    · (intro W hSW; (try dsimp only at hSW); first | (go_simp; done) | (go_simp; with_reducible rfl))
    try simp only [Act.put, List.setIfInBounds_toArray, List.set_cons_zero, List.set_cons_succ]
    refine wpAnyH_take (i := 43) (oi := { dst := some 190, op := Op.move (Operand.tmp 25), type := 33, pos := "law.go:264", after := #[{ on := 36, ground := Ground.guard }], guard := some (36, true) }) (v := ?_) rfl (by kernel_rfl) (by kernel_rfl) (by kernel_rfl) (fun _ _ _ h => h) (Or.inl ⟨by rfl, ?_⟩) (by assumption) ?_
    rotate_left 1
    · (intro W hSW; (try dsimp only at hSW); first | (go_simp; done) | (go_simp; with_reducible rfl))
    try simp only [Act.put, List.setIfInBounds_toArray, List.set_cons_zero, List.set_cons_succ]
    refine wpAnyH_take (i := 44) (oi := { dst := some 191, op := Op.fieldAddr 27 (Operand.tmp 1) 3, type := 0, pos := "law.go:264", after := #[{ on := 36, ground := Ground.guard }], guard := some (36, true) }) (v := ?_) rfl (by kernel_rfl) (by kernel_rfl) (by kernel_rfl) (fun _ _ _ h => h) (Or.inl ⟨by rfl, ?_⟩) (by assumption) ?_
    rotate_left 1
    · (intro W hSW; (try dsimp only at hSW); first | (go_simp; done) | (go_simp; with_reducible rfl))
    try simp only [Act.put, List.setIfInBounds_toArray, List.set_cons_zero, List.set_cons_succ]
    refine wpAnyH_take (i := 45) (oi := { dst := some 192, op := Op.load 24 (Operand.tmp 191), type := 24, pos := "law.go:264", after := #[{ on := 44, ground := Ground.data }, { on := 36, ground := Ground.guard }], guard := some (36, true) }) (v := ?_) rfl (by kernel_rfl) (by kernel_rfl) (by kernel_rfl) (fun _ _ _ h => h) (Or.inl ⟨by rfl, ?_⟩) (by assumption) ?_
    rotate_left 1
    · (intro W hSW; (try dsimp only at hSW); first | (go_simp; done) | (go_simp; with_reducible rfl))
    try simp only [Act.put, List.setIfInBounds_toArray, List.set_cons_zero, List.set_cons_succ]
    refine wpAnyH_ready (rs := [41]) (by kernel_rfl) (by simp) ?_
    refine (AllReadyH.cons (o := { dst := some 188, op := Op.call { callee := Callee.value (Operand.func 13), args := #[Operand.tmp 184, Operand.tmp 185, Operand.tmp 187], argTypes := #[32, 33, 24] }, type := 3, pos := "law.go:264", after := #[{ on := 37, ground := Ground.data }, { on := 38, ground := Ground.data }, { on := 40, ground := Ground.data }, { on := 36, ground := Ground.chain }, { on := 36, ground := Ground.guard }], guard := some (36, true) }) rfl (fun K hK => ?_) AllReadyH.nil)
    rw [if_pos (by rfl)]
    go_simp
    go_at_call 13
    refine (number_n LX.out.2.2.2.2.2.2.1 HNV.out DX.out.2.2.2.2.2.2.2.1.numE GX.out.2.2.2.2.2.2.1.1 (by have := GX.out.2.2.2.2.2.2.1.2; omega) (by have := LX.out.2.2.2.2.2.2.1; have := HB.out; have := HNAB.out; omega) HV20.out (ok_le (by have := GX.out.2.2.2.2.2.2.1.2; omega) DX.out.2.2.2.2.2.2.2.1.2.2) ((HJ.out.grown hgr4).2.2) (RlJ.out.grown hgr4) (HI.out.v.grown hgr4)).mono ?_
    rintro e wc5 ⟨rfl, gc5⟩
    have hgr5 := World.grownBy.trans hgr4 gc5
    go_wp2_with fail
    refine hK.out _ _ (HS.out _ hgr5) (fun hHeld => ?_)
    clear hK K
    try simp only [Act.put, List.setIfInBounds_toArray, List.set_cons_zero, List.set_cons_succ]
    refine wpAnyH_ready (rs := [46]) (by kernel_rfl) (by simp) ?_
    refine (AllReadyH.cons (o := { dst := some 193, op := Op.call { callee := Callee.value (Operand.func 13), args := #[Operand.tmp 189, Operand.tmp 190, Operand.tmp 192], argTypes := #[32, 33, 24] }, type := 3, pos := "law.go:264", after := #[{ on := 42, ground := Ground.data }, { on := 43, ground := Ground.data }, { on := 45, ground := Ground.data }, { on := 41, ground := Ground.chain }, { on := 36, ground := Ground.guard }], guard := some (36, true) }) rfl (fun K hK => ?_) AllReadyH.nil)
    rw [if_pos (by rfl)]
    go_simp
    go_at_call 13
    refine (number_n LX.out.2.2.2.2.2.2.2.1 HNV.out DX.out.2.2.2.2.2.2.2.2.numE GX.out.2.2.2.2.2.2.2.1 (by have := GX.out.2.2.2.2.2.2.2.2; omega) (by have := LX.out.2.2.2.2.2.2.2.1; have := HB.out; have := HNAB.out; omega) HV20.out (ok_le (by have := GX.out.2.2.2.2.2.2.2.2; omega) DX.out.2.2.2.2.2.2.2.2.2.2) ((HLb.out.grown hgr5).2.2) (RlL.out.grown hgr5) (HI.out.v.grown hgr5)).mono ?_
    rintro e wc6 ⟨rfl, gc6⟩
    have hgr6 := World.grownBy.trans hgr5 gc6
    go_wp2_with fail
    refine hK.out _ _ (HS.out _ hgr6) (fun hHeld => ?_)
    clear hK K
    try simp only [Act.put, List.setIfInBounds_toArray, List.set_cons_zero, List.set_cons_succ]
    refine wpAnyH_take (i := 47) (oi := { dst := some 194, op := Op.binOp BinOp.eql 3 (Operand.tmp 188) (Operand.tmp 193) 3, type := 4, pos := "law.go:264", after := #[{ on := 41, ground := Ground.data }, { on := 46, ground := Ground.data }, { on := 36, ground := Ground.guard }], guard := some (36, true) }) (v := ?_) rfl (by kernel_rfl) (by kernel_rfl) (by kernel_rfl) (fun _ _ _ h => h) (Or.inl ⟨by rfl, ?_⟩) (by assumption) ?_
    rotate_left 1
    · (intro W hSW; (try dsimp only at hSW); first | (go_simp; done) | (go_simp; with_reducible rfl))
    try simp only [Act.put, List.setIfInBounds_toArray, List.set_cons_zero, List.set_cons_succ]
    refine wpAnyH_take (i := 48) (oi := { dst := some 195, op := Op.pick (Operand.tmp 183) (Operand.tmp 194) (Operand.const (Value.bool false)), type := 4, pos := "law.go:264", after := #[{ on := 36, ground := Ground.data }, { on := 47, ground := Ground.data }], guard := none }) (v := ?_) rfl (by kernel_rfl) (by kernel_rfl) (by kernel_rfl) (fun _ _ _ h => h) (Or.inl ⟨by rfl, ?_⟩) (by assumption) ?_
    rotate_left 1
    · (intro W hSW; (try dsimp only at hSW); first | (go_simp; done) | (go_simp; with_reducible rfl))
    try simp only [Act.put, List.setIfInBounds_toArray, List.set_cons_zero, List.set_cons_succ]
    refine wpAnyH_take (i := 49) (oi := { dst := some 196, op := Op.move (Operand.tmp 195), type := 4, pos := "law.go:264", after := #[{ on := 48, ground := Ground.data }, { on := 46, ground := Ground.chain }], guard := none }) (v := ?_) rfl (by kernel_rfl) (by kernel_rfl) (by kernel_rfl) (fun _ _ _ h => h) (Or.inl ⟨by rfl, ?_⟩) (by assumption) ?_
    rotate_left 1
    · (intro W hSW; (try dsimp only at hSW); first | (go_simp; done) | (go_simp; with_reducible rfl))
    try simp only [Act.put, List.setIfInBounds_toArray, List.set_cons_zero, List.set_cons_succ]
    refine wpAnyH_take (i := 50) (oi := { dst := some 197, op := Op.load 32 (Operand.tmp 11), type := 32, pos := "law.go:264", after := #[{ on := 49, ground := Ground.guard }], guard := some (49, true) }) (v := ?_) rfl (by kernel_rfl) (by kernel_rfl) (by kernel_rfl) (fun _ _ _ h => h) (Or.inl ⟨by rfl, ?_⟩) (by assumption) ?_
    rotate_left 1
    · (intro W hSW; (try dsimp only at hSW); first | (go_simp; done) | (go_simp; with_reducible rfl))
    try simp only [Act.put, List.setIfInBounds_toArray, List.set_cons_zero, List.set_cons_succ]
    refine wpAnyH_take (i := 51) (oi := { dst := some 198, op := Op.move (Operand.tmp 12), type := 33, pos := "law.go:264", after := #[{ on := 49, ground := Ground.guard }], guard := some (49, true) }) (v := ?_) rfl (by kernel_rfl) (by kernel_rfl) (by kernel_rfl) (fun _ _ _ h => h) (Or.inl ⟨by rfl, ?_⟩) (by assumption) ?_
    rotate_left 1
    · (intro W hSW; (try dsimp only at hSW); first | (go_simp; done) | (go_simp; with_reducible rfl))
    try simp only [Act.put, List.setIfInBounds_toArray, List.set_cons_zero, List.set_cons_succ]
    refine wpAnyH_take (i := 52) (oi := { dst := some 199, op := Op.fieldAddr 27 (Operand.tmp 1) 3, type := 0, pos := "law.go:264", after := #[{ on := 49, ground := Ground.guard }], guard := some (49, true) }) (v := ?_) rfl (by kernel_rfl) (by kernel_rfl) (by kernel_rfl) (fun _ _ _ h => h) (Or.inl ⟨by rfl, ?_⟩) (by assumption) ?_
    rotate_left 1
    · (intro W hSW; (try dsimp only at hSW); first | (go_simp; done) | (go_simp; with_reducible rfl))
    try simp only [Act.put, List.setIfInBounds_toArray, List.set_cons_zero, List.set_cons_succ]
    refine wpAnyH_take (i := 53) (oi := { dst := some 200, op := Op.load 24 (Operand.tmp 199), type := 24, pos := "law.go:264", after := #[{ on := 52, ground := Ground.data }, { on := 49, ground := Ground.guard }], guard := some (49, true) }) (v := ?_) rfl (by kernel_rfl) (by kernel_rfl) (by kernel_rfl) (fun _ _ _ h => h) (Or.inl ⟨by rfl, ?_⟩) (by assumption) ?_
    rotate_left 1
    · (intro W hSW; (try dsimp only at hSW); first | (go_simp; done) | (go_simp; with_reducible rfl))
    try simp only [Act.put, List.setIfInBounds_toArray, List.set_cons_zero, List.set_cons_succ]
    refine wpAnyH_take (i := 55) (oi := { dst := some 202, op := Op.load 32 (Operand.tmp 9), type := 32, pos := "law.go:264", after := #[{ on := 49, ground := Ground.guard }], guard := some (49, true) }) (v := ?_) rfl (by kernel_rfl) (by kernel_rfl) (by kernel_rfl) (fun _ _ _ h => h) (Or.inl ⟨by rfl, ?_⟩) (by assumption) ?_
    rotate_left 1
    · (intro W hSW; (try dsimp only at hSW); first | (go_simp; done) | (go_simp; with_reducible rfl))
    try simp only [Act.put, List.setIfInBounds_toArray, List.set_cons_zero, List.set_cons_succ]
    refine wpAnyH_take (i := 56) (oi := { dst := some 203, op := Op.move (Operand.tmp 8), type := 33, pos := "law.go:264", after := #[{ on := 49, ground := Ground.guard }], guard := some (49, true) }) (v := ?_) rfl (by kernel_rfl) (by kernel_rfl) (by kernel_rfl) (fun _ _ _ h => h) (Or.inl ⟨by rfl, ?_⟩) (by assumption) ?_
    rotate_left 1
    · (intro W hSW; (try dsimp only at hSW); first | (go_simp; done) | (go_simp; with_reducible rfl))
    try simp only [Act.put, List.setIfInBounds_toArray, List.set_cons_zero, List.set_cons_succ]
    refine wpAnyH_take (i := 57) (oi := { dst := some 204, op := Op.fieldAddr 27 (Operand.tmp 1) 3, type := 0, pos := "law.go:264", after := #[{ on := 49, ground := Ground.guard }], guard := some (49, true) }) (v := ?_) rfl (by kernel_rfl) (by kernel_rfl) (by kernel_rfl) (fun _ _ _ h => h) (Or.inl ⟨by rfl, ?_⟩) (by assumption) ?_
    rotate_left 1
    · (intro W hSW; (try dsimp only at hSW); first | (go_simp; done) | (go_simp; with_reducible rfl))
    try simp only [Act.put, List.setIfInBounds_toArray, List.set_cons_zero, List.set_cons_succ]
    refine wpAnyH_take (i := 58) (oi := { dst := some 205, op := Op.load 24 (Operand.tmp 204), type := 24, pos := "law.go:264", after := #[{ on := 57, ground := Ground.data }, { on := 49, ground := Ground.guard }], guard := some (49, true) }) (v := ?_) rfl (by kernel_rfl) (by kernel_rfl) (by kernel_rfl) (fun _ _ _ h => h) (Or.inl ⟨by rfl, ?_⟩) (by assumption) ?_
    rotate_left 1
    · (intro W hSW; (try dsimp only at hSW); first | (go_simp; done) | (go_simp; with_reducible rfl))
    try simp only [Act.put, List.setIfInBounds_toArray, List.set_cons_zero, List.set_cons_succ]
    refine wpAnyH_take (i := 60) (oi := { dst := some 207, op := Op.load 32 (Operand.tmp 9), type := 32, pos := "law.go:264", after := #[{ on := 49, ground := Ground.guard }], guard := some (49, true) }) (v := ?_) rfl (by kernel_rfl) (by kernel_rfl) (by kernel_rfl) (fun _ _ _ h => h) (Or.inl ⟨by rfl, ?_⟩) (by assumption) ?_
    rotate_left 1
    · (intro W hSW; (try dsimp only at hSW); first | (go_simp; done) | (go_simp; with_reducible rfl))
    try simp only [Act.put, List.setIfInBounds_toArray, List.set_cons_zero, List.set_cons_succ]
    refine wpAnyH_take (i := 61) (oi := { dst := some 208, op := Op.move (Operand.tmp 10), type := 33, pos := "law.go:264", after := #[{ on := 49, ground := Ground.guard }], guard := some (49, true) }) (v := ?_) rfl (by kernel_rfl) (by kernel_rfl) (by kernel_rfl) (fun _ _ _ h => h) (Or.inl ⟨by rfl, ?_⟩) (by assumption) ?_
    rotate_left 1
    · (intro W hSW; (try dsimp only at hSW); first | (go_simp; done) | (go_simp; with_reducible rfl))
    try simp only [Act.put, List.setIfInBounds_toArray, List.set_cons_zero, List.set_cons_succ]
    refine wpAnyH_take (i := 62) (oi := { dst := some 209, op := Op.fieldAddr 27 (Operand.tmp 1) 3, type := 0, pos := "law.go:264", after := #[{ on := 49, ground := Ground.guard }], guard := some (49, true) }) (v := ?_) rfl (by kernel_rfl) (by kernel_rfl) (by kernel_rfl) (fun _ _ _ h => h) (Or.inl ⟨by rfl, ?_⟩) (by assumption) ?_
    rotate_left 1
    · (intro W hSW; (try dsimp only at hSW); first | (go_simp; done) | (go_simp; with_reducible rfl))
    try simp only [Act.put, List.setIfInBounds_toArray, List.set_cons_zero, List.set_cons_succ]
    refine wpAnyH_take (i := 63) (oi := { dst := some 210, op := Op.load 24 (Operand.tmp 209), type := 24, pos := "law.go:264", after := #[{ on := 62, ground := Ground.data }, { on := 49, ground := Ground.guard }], guard := some (49, true) }) (v := ?_) rfl (by kernel_rfl) (by kernel_rfl) (by kernel_rfl) (fun _ _ _ h => h) (Or.inl ⟨by rfl, ?_⟩) (by assumption) ?_
    rotate_left 1
    · (intro W hSW; (try dsimp only at hSW); first | (go_simp; done) | (go_simp; with_reducible rfl))
    try simp only [Act.put, List.setIfInBounds_toArray, List.set_cons_zero, List.set_cons_succ]
    refine wpAnyH_ready (rs := [54]) (by kernel_rfl) (by simp) ?_
    refine (AllReadyH.cons (o := { dst := some 201, op := Op.call { callee := Callee.value (Operand.func 22), args := #[Operand.tmp 197, Operand.tmp 198, Operand.tmp 200], argTypes := #[32, 33, 24] }, type := 3, pos := "law.go:264", after := #[{ on := 50, ground := Ground.data }, { on := 51, ground := Ground.data }, { on := 53, ground := Ground.data }, { on := 49, ground := Ground.chain }, { on := 49, ground := Ground.guard }], guard := some (49, true) }) rfl (fun K hK => ?_) AllReadyH.nil)
    rw [if_pos (by rfl)]
    go_simp
    go_at_call 22
    refine (value_n LX.out.2.2.1 HNV.out DX.out.2.2.2.1.numE GX.out.2.2.1.1 (by have := GX.out.2.2.1.2; omega) (by have := LX.out.2.2.1; have := HB.out; have := HNAB.out; omega) HV20.out (ok_le (by have := GX.out.2.2.1.2; omega) DX.out.2.2.2.1.2.2) ((HF.out.grown hgr6).2.2) (RlF.out.grown hgr6) (HI.out.v.grown hgr6)).mono ?_
    rintro e wc7 ⟨rfl, gc7⟩
    have hgr7 := World.grownBy.trans hgr6 gc7
    go_wp2_with fail
    refine hK.out _ _ (HS.out _ hgr7) (fun hHeld => ?_)
    clear hK K
    try simp only [Act.put, List.setIfInBounds_toArray, List.set_cons_zero, List.set_cons_succ]
    refine wpAnyH_ready (rs := [59]) (by kernel_rfl) (by simp) ?_
    refine (AllReadyH.cons (o := { dst := some 206, op := Op.call { callee := Callee.value (Operand.func 22), args := #[Operand.tmp 202, Operand.tmp 203, Operand.tmp 205], argTypes := #[32, 33, 24] }, type := 3, pos := "law.go:264", after := #[{ on := 55, ground := Ground.data }, { on := 56, ground := Ground.data }, { on := 58, ground := Ground.data }, { on := 54, ground := Ground.chain }, { on := 49, ground := Ground.guard }], guard := some (49, true) }) rfl (fun K hK => ?_) AllReadyH.nil)
    rw [if_pos (by rfl)]
    go_simp
    go_at_call 22
    refine (value_n LX.out.1 HNV.out DX.out.2.1.numE GX.out.2.1.1 (by have := GX.out.2.1.2; omega) (by have := LX.out.1; have := HB.out; have := HNAB.out; omega) HV20.out (ok_le (by have := GX.out.2.1.2; omega) DX.out.2.1.2.2) ((HE.out.grown hgr7).2.2) (RlD.out.grown hgr7) (HI.out.v.grown hgr7)).mono ?_
    rintro e wc8 ⟨rfl, gc8⟩
    have hgr8 := World.grownBy.trans hgr7 gc8
    go_wp2_with fail
    refine hK.out _ _ (HS.out _ hgr8) (fun hHeld => ?_)
    clear hK K
    try simp only [Act.put, List.setIfInBounds_toArray, List.set_cons_zero, List.set_cons_succ]
    refine wpAnyH_ready (rs := [64]) (by kernel_rfl) (by simp) ?_
    refine (AllReadyH.cons (o := { dst := some 211, op := Op.call { callee := Callee.value (Operand.func 22), args := #[Operand.tmp 207, Operand.tmp 208, Operand.tmp 210], argTypes := #[32, 33, 24] }, type := 3, pos := "law.go:264", after := #[{ on := 60, ground := Ground.data }, { on := 61, ground := Ground.data }, { on := 63, ground := Ground.data }, { on := 59, ground := Ground.chain }, { on := 49, ground := Ground.guard }], guard := some (49, true) }) rfl (fun K hK => ?_) AllReadyH.nil)
    rw [if_pos (by rfl)]
    go_simp
    go_at_call 22
    refine (value_n LX.out.2.1 HNV.out DX.out.2.2.1.numE GX.out.2.1.1 (by have := GX.out.2.1.2; omega) (by have := LX.out.2.1; have := HB.out; have := HNAB.out; omega) HV20.out (ok_le (by have := GX.out.2.1.2; omega) DX.out.2.2.1.2.2) ((HE.out.grown hgr8).2.2) (RlE.out.grown hgr8) (HI.out.v.grown hgr8)).mono ?_
    rintro e wc9 ⟨rfl, gc9⟩
    have hgr9 := World.grownBy.trans hgr8 gc9
    go_wp2_with fail
    refine hK.out _ _ (HS.out _ hgr9) (fun hHeld => ?_)
    clear hK K
    try simp only [Act.put, List.setIfInBounds_toArray, List.set_cons_zero, List.set_cons_succ]
    refine wpAnyH_take (i := 65) (oi := { dst := some 212, op := Op.binOp BinOp.add 3 (Operand.tmp 206) (Operand.tmp 211) 3, type := 3, pos := "law.go:264", after := #[{ on := 59, ground := Ground.data }, { on := 64, ground := Ground.data }, { on := 49, ground := Ground.guard }], guard := some (49, true) }) (v := ?_) rfl (by kernel_rfl) (by kernel_rfl) (by kernel_rfl) (fun _ _ _ h => h) (Or.inl ⟨by rfl, ?_⟩) (by assumption) ?_
    rotate_left 1
    · (intro W hSW; (try dsimp only at hSW); first | (go_simp; done) | (go_simp; with_reducible rfl))
    try simp only [Act.put, List.setIfInBounds_toArray, List.set_cons_zero, List.set_cons_succ]
    refine wpAnyH_take (i := 66) (oi := { dst := some 213, op := Op.binOp BinOp.eql 3 (Operand.tmp 201) (Operand.tmp 212) 3, type := 4, pos := "law.go:264", after := #[{ on := 54, ground := Ground.data }, { on := 65, ground := Ground.data }, { on := 49, ground := Ground.guard }], guard := some (49, true) }) (v := ?_) rfl (by kernel_rfl) (by kernel_rfl) (by kernel_rfl) (fun _ _ _ h => h) (Or.inl ⟨by rfl, ?_⟩) (by assumption) ?_
    rotate_left 1
    · (intro W hSW; (try dsimp only at hSW); first | (go_simp; done) | (go_simp; with_reducible rfl))
    try simp only [Act.put, List.setIfInBounds_toArray, List.set_cons_zero, List.set_cons_succ]
    refine wpAnyH_take (i := 67) (oi := { dst := some 214, op := Op.pick (Operand.tmp 196) (Operand.tmp 213) (Operand.const (Value.bool false)), type := 4, pos := "law.go:264", after := #[{ on := 49, ground := Ground.data }, { on := 66, ground := Ground.data }], guard := none }) (v := ?_) rfl (by kernel_rfl) (by kernel_rfl) (by kernel_rfl) (fun _ _ _ h => h) (Or.inl ⟨by rfl, ?_⟩) (by assumption) ?_
    rotate_left 1
    · (intro W hSW; (try dsimp only at hSW); first | (go_simp; done) | (go_simp; with_reducible rfl))
    try simp only [Act.put, List.setIfInBounds_toArray, List.set_cons_zero, List.set_cons_succ]
    refine wpAnyH_take (i := 68) (oi := { dst := some 2, op := Op.assign (Operand.tmp 214), type := 4, pos := "law.go:264", after := ([{ on := 67, ground := Ground.data }, { on := 64, ground := Ground.chain }, { on := 0, ground := Ground.phase }, { on := 1, ground := Ground.phase }, { on := 2, ground := Ground.phase }, { on := 3, ground := Ground.phase }, { on := 4, ground := Ground.phase }, { on := 5, ground := Ground.phase }, { on := 6, ground := Ground.phase }, { on := 7, ground := Ground.phase }, { on := 8, ground := Ground.phase }, { on := 9, ground := Ground.phase }, { on := 10, ground := Ground.phase }, { on := 11, ground := Ground.phase }, { on := 12, ground := Ground.phase }, { on := 13, ground := Ground.phase }, { on := 14, ground := Ground.phase }, { on := 15, ground := Ground.phase }, { on := 16, ground := Ground.phase }, { on := 17, ground := Ground.phase }, { on := 18, ground := Ground.phase }, { on := 19, ground := Ground.phase }, { on := 20, ground := Ground.phase }, { on := 21, ground := Ground.phase }, { on := 22, ground := Ground.phase }, { on := 23, ground := Ground.phase }, { on := 24, ground := Ground.phase }, { on := 25, ground := Ground.phase }, { on := 26, ground := Ground.phase }, { on := 27, ground := Ground.phase }, { on := 28, ground := Ground.phase }, { on := 29, ground := Ground.phase }, { on := 30, ground := Ground.phase }, { on := 31, ground := Ground.phase }, { on := 32, ground := Ground.phase }].append [{ on := 33, ground := Ground.phase }, { on := 34, ground := Ground.phase }, { on := 35, ground := Ground.phase }, { on := 36, ground := Ground.phase }, { on := 37, ground := Ground.phase }, { on := 38, ground := Ground.phase }, { on := 39, ground := Ground.phase }, { on := 40, ground := Ground.phase }, { on := 41, ground := Ground.phase }, { on := 42, ground := Ground.phase }, { on := 43, ground := Ground.phase }, { on := 44, ground := Ground.phase }, { on := 45, ground := Ground.phase }, { on := 46, ground := Ground.phase }, { on := 47, ground := Ground.phase }, { on := 48, ground := Ground.phase }, { on := 49, ground := Ground.phase }, { on := 50, ground := Ground.phase }, { on := 51, ground := Ground.phase }, { on := 52, ground := Ground.phase }, { on := 53, ground := Ground.phase }, { on := 54, ground := Ground.phase }, { on := 55, ground := Ground.phase }, { on := 56, ground := Ground.phase }, { on := 57, ground := Ground.phase }, { on := 58, ground := Ground.phase }, { on := 59, ground := Ground.phase }, { on := 60, ground := Ground.phase }, { on := 61, ground := Ground.phase }, { on := 62, ground := Ground.phase }, { on := 63, ground := Ground.phase }, { on := 64, ground := Ground.phase }, { on := 65, ground := Ground.phase }, { on := 66, ground := Ground.phase }, { on := 67, ground := Ground.phase }]).toArray, guard := none }) (v := ?_) rfl (by kernel_rfl) (by kernel_rfl) (by kernel_rfl) (fun _ _ _ h => h) (Or.inl ⟨by rfl, ?_⟩) (by assumption) ?_
    rotate_left 1
    · (intro W hSW; (try dsimp only at hSW); first | (go_simp; done) | (go_simp; with_reducible rfl))
    try simp only [Act.put, List.setIfInBounds_toArray, List.set_cons_zero, List.set_cons_succ]
    refine wpAnyH_done (by kernel_rfl) ?_ _
    have hEND := hgr9
    clear hHeld
    have HE9 := Lib.hid (World.grownBy.trans HG.out hEND)
    clear hEND
    go_wp2_with fail
    go_ret
    exact ⟨rfl, HE9.out⟩
end Go.Proofs.Ythagoihpppppkaa
