/- The law: comparisons. -/
import Derived.Test.YthagoihpppppkaaT1
import Derived.Deep.DeepCutAuto
namespace Go.Proofs.Ythagoihpppppkaa
open Go.RowKit Go.Maps

theorem bool_eq_dec (n m : Nat) : ((n : Int) == (m : Int)) = decide (n = m) := by
  by_cases h : n = m
  · rw [decide_eq_true h]; simp [h]
  · rw [decide_eq_false h]; simp; omega
theorem cmp_facts {n m : Nat} {y : Int} {p q s o d x : Bool} (hp : p = decide ((n : Int) < (m : Int) + 0)) (hq : q = decide ((m : Int) < (n : Int) + 0)) (hs : s = decide (n = m)) (ho : o = decide ((n : Int) < (m : Int) + y)) (hd : d = decide ((m : Int) < (n : Int) + (1 - y))) (hx : x = decide ((n : Int) < (m : Int) + (y + 1))) :
    ((p = true ∧ q = false ∧ s = false) ∨ (p = false ∧ q = true ∧ s = false) ∨ (p = false ∧ q = false ∧ s = true)) ∧ ((o = true ∧ d = false ∧ x = true) ∨ (o = false ∧ d = true)) := by
  subst hp hq hs ho hd hx
  constructor
  · rcases Nat.lt_trichotomy n m with h | h | h
    · exact .inl ⟨decide_eq_true (by omega), decide_eq_false (by omega), decide_eq_false (by omega)⟩
    · exact .inr (.inr ⟨decide_eq_false (by omega), decide_eq_false (by omega), decide_eq_true h⟩)
    · exact .inr (.inl ⟨decide_eq_false (by omega), decide_eq_true (by omega), decide_eq_false (by omega)⟩)
  · by_cases h : (n : Int) < (m : Int) + y
    · exact .inl ⟨decide_eq_true h, decide_eq_false (by omega), decide_eq_true (by omega)⟩
    · exact .inr ⟨decide_eq_false h, decide_eq_true (by omega)⟩

set_option maxRecDepth 100000 in
set_option maxHeartbeats 4000000 in
theorem comparisons_calls (l : List Stp) (A B : List Nat) (vals : List Bool) (y : Int) (sa : Option Addr) (sc : Nat) (aa : Option Addr) (ac : Nat) (ba : Option Addr) (bc : Nat) (va : Option Addr) (vc : Nat)  (w : World) (h : RawIn w l A B vals y sa sc aa ac ba bc va vc)  :
    Calls Try.prog 9 #[.agg #[.slice sa l.length sc, .slice aa A.length ac, .slice ba B.length bc, .slice va vals.length vc, .int .i8 y]] w fun e w' => e = .returned (.bool true) ∧ w.grownBy w' none := by
  obtain ⟨nl, hnl⟩ : ∃ n, l.length = n := ⟨_, rfl⟩
  obtain ⟨na, hna⟩ : ∃ n, A.length = n := ⟨_, rfl⟩
  obtain ⟨nb, hnb⟩ : ∃ n, B.length = n := ⟨_, rfl⟩
  obtain ⟨nv, hnv⟩ : ∃ n, vals.length = n := ⟨_, rfl⟩
  have HN := Lib.hid (And.intro hnl (And.intro hna (And.intro hnb hnv)))
  rw [hnl, hna, hnb, hnv]
  have hg1 := World.grownBy_alloc w (.cells #[.slice sa nl sc, .slice aa na ac, .slice ba nb bc, .slice va nv vc, .int .i8 y] 27) none
  have hq := raw_cells w sa nl sc aa na ac ba nb bc va nv vc y
  obtain ⟨W1, hW1⟩ : ∃ z, w.alloc (.cells #[.slice sa nl sc, .slice aa na ac, .slice ba nb bc, .slice va nv vc, .int .i8 y] 27) = z := ⟨_, rfl⟩
  rw [hW1] at hg1 hq
  obtain ⟨bX, hbX⟩ : ∃ z, w.heap.size = z := ⟨_, rfl⟩
  rw [hbX] at hq
  have HX := Lib.hid (show RawB W1 bX sa nl sc aa na ac ba nb bc va nv vc y from ⟨hq.1, hq.2.1, hq.2.2.1, hq.2.2.2.1, hq.2.2.2.2⟩)
  have HI := Lib.hid (h.grown hg1)
  have HG := Lib.hid hg1
  clear h hg1 hq hnl hna hnb hnv
  go_enter Try.func9, Try.ntmps9
  go_wp2_with fail
  clear hW1 hbX
  refine (head_calls _).mono ?_
  rintro e V1 ⟨rfl, g⟩
  replace HX := Lib.hid (HX.out.grown g)
  replace HI := Lib.hid (HI.out.grown g)
  replace HG := Lib.hid (World.grownBy.trans HG.out g)
  clear g
  have x0 := HX.out.c0
  have x1 := HX.out.c1
  have x2 := HX.out.c2
  have x3 := HX.out.c3
  have x4 := HX.out.c4
  go_wp2_with fail
  clear x0 x1 x2 x3 x4
  refine (great_calls _ sa nl sc aa na ac ba nb bc va nv vc y).mono ?_
  rintro e V2 ⟨rfl, g⟩
  replace HX := Lib.hid (HX.out.grown g)
  replace HI := Lib.hid (HI.out.grown g)
  replace HG := Lib.hid (World.grownBy.trans HG.out g)
  clear g
  cases hgr : greatB nl na nb nv with
  | true =>
    go_wp2_with fail
    go_ret
    exact ⟨rfl, HG.out⟩
  | false =>
    have HGN := Lib.hid (great_no hgr)
    clear hgr
    have x0 := HX.out.c0
    have x1 := HX.out.c1
    have x2 := HX.out.c2
    have x3 := HX.out.c3
    have x4 := HX.out.c4
    go_wp2_with fail
    clear x0 x1 x2 x3 x4
    obtain ⟨g0, la, lb, hgd, hgl, hoa, hob, hla, hlb, hic⟩ := inputs_n l A B vals y sa sc aa ac ba bc va vc V2 HI.out HN.out.1 HN.out.2.1 HN.out.2.2.1 ⟨HGN.out.1, HGN.out.2.1, HGN.out.2.2.1⟩
    have HGD := Lib.hid hgd
    have HL := Lib.hid hgl
    have OA := Lib.hid hoa
    have OB := Lib.hid hob
    have NA := Lib.hid hla
    have NB := Lib.hid hlb
    have HIC := Lib.hid hic
    clear hgd hgl hoa hob hla hlb hic
    refine HIC.out.mono ?_
    rintro e V3 ⟨a3, c3, b3, d3, b3x, d3x, rfl, hr, hra, hrb, g⟩
    replace HX := Lib.hid (HX.out.grown g)
    replace HI := Lib.hid (HI.out.grown g)
    replace HG := Lib.hid (World.grownBy.trans HG.out g)
    clear g
    have Rla := Lib.hid hra
    have Rlb := Lib.hid hrb
    clear hra hrb HIC
    have x0 := HX.out.c0
    have x1 := HX.out.c1
    have x2 := HX.out.c2
    have x3 := HX.out.c3
    have x4 := HX.out.c4
    go_upto_region 5 with fail
    clear x0 x1 x2 x3 x4
    have hb := CB.new hr
    have g := World.grownBy_alloc V3 (.cells #[.slice a3 g0.length c3] 32) none
    obtain ⟨V4, hV4⟩ : ∃ z, World.alloc V3 (.cells #[.slice a3 g0.length c3] 32) = z := ⟨_, rfl⟩
    rw [hV4] at g hb ⊢
    clear hV4 hr
    obtain ⟨bc, hbb⟩ : ∃ b, V3.heap.size = b := ⟨_, rfl⟩
    rw [hbb] at hb ⊢
    clear hbb
    replace HX := Lib.hid (HX.out.grown g)
    replace HI := Lib.hid (HI.out.grown g)
    replace Rla := Lib.hid (Rla.out.grown g)
    replace Rlb := Lib.hid (Rlb.out.grown g)
    replace HG := Lib.hid (World.grownBy.trans HG.out g)
    clear g
    have Hc := Lib.hid hb
    clear hb
    obtain ⟨rU, eU⟩ : ∃ r, (countP la).run g0 = r := ⟨_, rfl⟩
    obtain ⟨gU, lU⟩ := rU
    have cA := costC9 la.length (by have := NA.out; have := HGN.out; omega)
    have cB := costC9 lb.length (by have := NB.out; have := HGN.out; omega)
    have dU := count_den eU HGD.out (by have := HL.out; omega) OA.out
    have hU1 := dU.1.len
    have obU : ∀ r ∈ lb, Ok gU r := fun r hr => dU.1.ok (OB.out r hr)
    obtain ⟨rV, eV⟩ : ∃ r, (countP lb).run gU = r := ⟨_, rfl⟩
    obtain ⟨gV, lV⟩ := rV
    have dV := count_den eV dU.1.good (by have := HL.out; omega) obU
    have hV1 := dV.1.len
    have HGV := Lib.hid (show Good gV ∧ gV.length ≤ 450 from ⟨dV.1.good, by have := HL.out; omega⟩)
    obtain ⟨n, hn⟩ : ∃ n, numV g0 vals la = n := ⟨_, rfl⟩
    obtain ⟨m, hm⟩ : ∃ n, numV gU vals lb = n := ⟨_, rfl⟩
    have DU := Lib.hid (show Den gV vals lU n from by rw [← hn]; exact Den.grow dV.1 (dU.2.2 vals))
    have DV := Lib.hid (show Den gV vals lV m from by rw [← hm]; exact dV.2.2 vals)
    have NU := Lib.hid (show lU.length = na from by rw [dU.2.1, NA.out])
    have NV := Lib.hid (show lV.length = nb from by rw [dV.2.1, NB.out])
    have HCU := Lib.hid (fun (W : World) (a : Option Addr) (c : Nat) (b : Option Addr) (d : Nat) (hW : GatesW W a c g0) (hr : IntsW W b d la) => count_n NA.out eU HGD.out OA.out (by have := NA.out; have := HGN.out; omega) (by have := HL.out; omega) hW hr)
    have HCV := Lib.hid (fun (W : World) (a : Option Addr) (c : Nat) (b : Option Addr) (d : Nat) (hW : GatesW W a c gU) (hr : IntsW W b d lb) => count_n NB.out eV dU.1.good obU (by have := NB.out; have := HGN.out; omega) (by have := HL.out; omega) hW hr)
    clear eU eV cA cB dU dV hU1 hV1 obU hn hm
    have HY := Lib.hid HI.out.oky
    have HB := Lib.hid (show na ≤ 9 ∧ nb ≤ 9 from ⟨HGN.out.2.1, HGN.out.2.2.1⟩)
    have qc := Hc.out.1
    have x0 := HX.out.c0
    have x1 := HX.out.c1
    have x2 := HX.out.c2
    have x3 := HX.out.c3
    have x4 := HX.out.c4
    go_wp2_with fail
    clear qc x0 x1 x2 x3 x4
    refine (HCU.out _ _ _ _ _ Hc.out.2.2 Rla.out).mono ?_
    rintro e V5 ⟨a5, c5, b5, d5, rfl, hr, hrow, g⟩
    replace Hc := Lib.hid (Hc.out.grown g)
    replace HX := Lib.hid (HX.out.grown g)
    replace HI := Lib.hid (HI.out.grown g)
    replace Rla := Lib.hid (Rla.out.grown g)
    replace Rlb := Lib.hid (Rlb.out.grown g)
    replace HG := Lib.hid (World.grownBy.trans HG.out g)
    clear g
    have RlU := Lib.hid hrow
    clear hrow
    have qc := Hc.out.1
    have x0 := HX.out.c0
    have x1 := HX.out.c1
    have x2 := HX.out.c2
    have x3 := HX.out.c3
    have x4 := HX.out.c4
    go_upto_region 6 with fail
    clear qc x0 x1 x2 x3 x4
    have hb := CB.new hr
    have g := World.grownBy_alloc V5 (.cells #[.slice a5 gU.length c5] 32) none
    obtain ⟨V6, hV6⟩ : ∃ z, World.alloc V5 (.cells #[.slice a5 gU.length c5] 32) = z := ⟨_, rfl⟩
    rw [hV6] at g hb ⊢
    clear hV6 hr
    obtain ⟨bU, hbb⟩ : ∃ b, V5.heap.size = b := ⟨_, rfl⟩
    rw [hbb] at hb ⊢
    clear hbb
    replace Hc := Lib.hid (Hc.out.grown g)
    replace HX := Lib.hid (HX.out.grown g)
    replace HI := Lib.hid (HI.out.grown g)
    replace Rla := Lib.hid (Rla.out.grown g)
    replace Rlb := Lib.hid (Rlb.out.grown g)
    replace RlU := Lib.hid (RlU.out.grown g)
    replace HG := Lib.hid (World.grownBy.trans HG.out g)
    clear g
    have HU := Lib.hid hb
    clear hb
    have qc := Hc.out.1
    have qU := HU.out.1
    have x0 := HX.out.c0
    have x1 := HX.out.c1
    have x2 := HX.out.c2
    have x3 := HX.out.c3
    have x4 := HX.out.c4
    go_wp2_with fail
    clear qc qU x0 x1 x2 x3 x4
    refine (HCV.out _ _ _ _ _ HU.out.2.2 Rlb.out).mono ?_
    rintro e V7 ⟨a7, c7, b7, d7, rfl, hr, hrow, g⟩
    replace Hc := Lib.hid (Hc.out.grown g)
    replace HU := Lib.hid (HU.out.grown g)
    replace HX := Lib.hid (HX.out.grown g)
    replace HI := Lib.hid (HI.out.grown g)
    replace Rla := Lib.hid (Rla.out.grown g)
    replace Rlb := Lib.hid (Rlb.out.grown g)
    replace RlU := Lib.hid (RlU.out.grown g)
    replace HG := Lib.hid (World.grownBy.trans HG.out g)
    clear g
    have RlV := Lib.hid hrow
    clear hrow
    have qc := Hc.out.1
    have qU := HU.out.1
    have x0 := HX.out.c0
    have x1 := HX.out.c1
    have x2 := HX.out.c2
    have x3 := HX.out.c3
    have x4 := HX.out.c4
    go_upto_region 7 with fail
    clear qc qU x0 x1 x2 x3 x4
    have hb := CB.new hr
    have g := World.grownBy_alloc V7 (.cells #[.slice a7 gV.length c7] 32) none
    obtain ⟨V8, hV8⟩ : ∃ z, World.alloc V7 (.cells #[.slice a7 gV.length c7] 32) = z := ⟨_, rfl⟩
    rw [hV8] at g hb ⊢
    clear hV8 hr
    obtain ⟨bV, hbb⟩ : ∃ b, V7.heap.size = b := ⟨_, rfl⟩
    rw [hbb] at hb ⊢
    clear hbb
    replace Hc := Lib.hid (Hc.out.grown g)
    replace HU := Lib.hid (HU.out.grown g)
    replace HX := Lib.hid (HX.out.grown g)
    replace HI := Lib.hid (HI.out.grown g)
    replace Rla := Lib.hid (Rla.out.grown g)
    replace Rlb := Lib.hid (Rlb.out.grown g)
    replace RlU := Lib.hid (RlU.out.grown g)
    replace RlV := Lib.hid (RlV.out.grown g)
    replace HG := Lib.hid (World.grownBy.trans HG.out g)
    clear g
    have HV := Lib.hid hb
    clear hb
    have wy : IntKind.i64.wrap y = y := IntWalk.i64_in _ (by have := HY.out; omega)
    have qc := Hc.out.1
    have qU := HU.out.1
    have qV := HV.out.1
    have x0 := HX.out.c0
    have x1 := HX.out.c1
    have x2 := HX.out.c2
    have x3 := HX.out.c3
    have x4 := HX.out.c4
    go_upto_region 8 with fail
    clear qc qU qV x0 x1 x2 x3 x4
    clear wy
    obtain ⟨rP, eP⟩ : ∃ r, (lessP lU lV (0)).run gV = r := ⟨_, rfl⟩
    obtain ⟨gP, lP⟩ := rP
    have dP := less_den eP HGV.out.1 (by have := NV.out; have := HB.out; have := HGV.out.2; omega) DU.out.2.2 DV.out.2.2
    have hP1 := dP.1.len
    have GP := Lib.hid (show Good gP ∧ gP.length ≤ 500 ∧ Ok gP lP ∧ lP ≤ 9223372036854775807 from ⟨dP.1.good, by have := NV.out; have := HB.out; have := HGV.out.2; omega, dP.2.1, ok_i64 (by have := NV.out; have := HB.out; have := HGV.out.2; omega) dP.2.1⟩)
    have EP := Lib.hid (dP.2.2 vals n m DU.out DV.out)
    have HCP := Lib.hid (fun (W : World) (a : Option Addr) (c : Nat) (b : Option Addr) (d : Nat) (b2 : Option Addr) (d2 : Nat) (hW : GatesW W a c gV) (hr : IntsW W b d lU) (hr2 : IntsW W b2 d2 lV) => less_n NU.out NV.out eP HGV.out.1 DU.out.2.2 DV.out.2.2 (by have := NU.out; have := HB.out; omega) (by have := NV.out; have := HB.out; omega) (by have := NV.out; have := HB.out; have := HGV.out.2; omega) (by have := HY.out; omega) hW hr hr2)
    clear eP dP hP1
    have qc := Hc.out.1
    have qU := HU.out.1
    have qV := HV.out.1
    have x0 := HX.out.c0
    have x1 := HX.out.c1
    have x2 := HX.out.c2
    have x3 := HX.out.c3
    have x4 := HX.out.c4
    go_wp2_with fail
    clear qc qU qV x0 x1 x2 x3 x4
    refine (HCP.out _ _ _ _ _ _ _ HV.out.2.2 RlU.out RlV.out).mono ?_
    rintro e V9 ⟨a9, c9, rfl, hr, g⟩
    replace Hc := Lib.hid (Hc.out.grown g)
    replace HU := Lib.hid (HU.out.grown g)
    replace HV := Lib.hid (HV.out.grown g)
    replace HX := Lib.hid (HX.out.grown g)
    replace HI := Lib.hid (HI.out.grown g)
    replace Rla := Lib.hid (Rla.out.grown g)
    replace Rlb := Lib.hid (Rlb.out.grown g)
    replace RlU := Lib.hid (RlU.out.grown g)
    replace RlV := Lib.hid (RlV.out.grown g)
    replace HG := Lib.hid (World.grownBy.trans HG.out g)
    clear g
    have qc := Hc.out.1
    have qU := HU.out.1
    have qV := HV.out.1
    have x0 := HX.out.c0
    have x1 := HX.out.c1
    have x2 := HX.out.c2
    have x3 := HX.out.c3
    have x4 := HX.out.c4
    go_upto_region 9 with fail
    clear qc qU qV x0 x1 x2 x3 x4
    have hb := CB.new hr
    have g := World.grownBy_alloc V9 (.cells #[.slice a9 gP.length c9] 32) none
    obtain ⟨V10, hV10⟩ : ∃ z, World.alloc V9 (.cells #[.slice a9 gP.length c9] 32) = z := ⟨_, rfl⟩
    rw [hV10] at g hb ⊢
    clear hV10 hr
    obtain ⟨bP, hbb⟩ : ∃ b, V9.heap.size = b := ⟨_, rfl⟩
    rw [hbb] at hb ⊢
    clear hbb
    replace Hc := Lib.hid (Hc.out.grown g)
    replace HU := Lib.hid (HU.out.grown g)
    replace HV := Lib.hid (HV.out.grown g)
    replace HX := Lib.hid (HX.out.grown g)
    replace HI := Lib.hid (HI.out.grown g)
    replace Rla := Lib.hid (Rla.out.grown g)
    replace Rlb := Lib.hid (Rlb.out.grown g)
    replace RlU := Lib.hid (RlU.out.grown g)
    replace RlV := Lib.hid (RlV.out.grown g)
    replace HG := Lib.hid (World.grownBy.trans HG.out g)
    clear g
    have HP := Lib.hid hb
    clear hb
    obtain ⟨rQ, eQ⟩ : ∃ r, (lessP lV lU (0)).run gV = r := ⟨_, rfl⟩
    obtain ⟨gQ, lQ⟩ := rQ
    have dQ := less_den eQ HGV.out.1 (by have := NU.out; have := HB.out; have := HGV.out.2; omega) DV.out.2.2 DU.out.2.2
    have hQ1 := dQ.1.len
    have GQ := Lib.hid (show Good gQ ∧ gQ.length ≤ 500 ∧ Ok gQ lQ ∧ lQ ≤ 9223372036854775807 from ⟨dQ.1.good, by have := NU.out; have := HB.out; have := HGV.out.2; omega, dQ.2.1, ok_i64 (by have := NU.out; have := HB.out; have := HGV.out.2; omega) dQ.2.1⟩)
    have EQ := Lib.hid (dQ.2.2 vals m n DV.out DU.out)
    have HCQ := Lib.hid (fun (W : World) (a : Option Addr) (c : Nat) (b : Option Addr) (d : Nat) (b2 : Option Addr) (d2 : Nat) (hW : GatesW W a c gV) (hr : IntsW W b d lV) (hr2 : IntsW W b2 d2 lU) => less_n NV.out NU.out eQ HGV.out.1 DV.out.2.2 DU.out.2.2 (by have := NV.out; have := HB.out; omega) (by have := NU.out; have := HB.out; omega) (by have := NU.out; have := HB.out; have := HGV.out.2; omega) (by have := HY.out; omega) hW hr hr2)
    clear eQ dQ hQ1
    have qc := Hc.out.1
    have qU := HU.out.1
    have qV := HV.out.1
    have qP := HP.out.1
    have x0 := HX.out.c0
    have x1 := HX.out.c1
    have x2 := HX.out.c2
    have x3 := HX.out.c3
    have x4 := HX.out.c4
    go_wp2_with fail
    clear qc qU qV qP x0 x1 x2 x3 x4
    refine (HCQ.out _ _ _ _ _ _ _ HV.out.2.2 RlV.out RlU.out).mono ?_
    rintro e V11 ⟨a11, c11, rfl, hr, g⟩
    replace Hc := Lib.hid (Hc.out.grown g)
    replace HU := Lib.hid (HU.out.grown g)
    replace HV := Lib.hid (HV.out.grown g)
    replace HP := Lib.hid (HP.out.grown g)
    replace HX := Lib.hid (HX.out.grown g)
    replace HI := Lib.hid (HI.out.grown g)
    replace Rla := Lib.hid (Rla.out.grown g)
    replace Rlb := Lib.hid (Rlb.out.grown g)
    replace RlU := Lib.hid (RlU.out.grown g)
    replace RlV := Lib.hid (RlV.out.grown g)
    replace HG := Lib.hid (World.grownBy.trans HG.out g)
    clear g
    have qc := Hc.out.1
    have qU := HU.out.1
    have qV := HV.out.1
    have qP := HP.out.1
    have x0 := HX.out.c0
    have x1 := HX.out.c1
    have x2 := HX.out.c2
    have x3 := HX.out.c3
    have x4 := HX.out.c4
    go_upto_region 10 with fail
    clear qc qU qV qP x0 x1 x2 x3 x4
    have hb := CB.new hr
    have g := World.grownBy_alloc V11 (.cells #[.slice a11 gQ.length c11] 32) none
    obtain ⟨V12, hV12⟩ : ∃ z, World.alloc V11 (.cells #[.slice a11 gQ.length c11] 32) = z := ⟨_, rfl⟩
    rw [hV12] at g hb ⊢
    clear hV12 hr
    obtain ⟨bQ, hbb⟩ : ∃ b, V11.heap.size = b := ⟨_, rfl⟩
    rw [hbb] at hb ⊢
    clear hbb
    replace Hc := Lib.hid (Hc.out.grown g)
    replace HU := Lib.hid (HU.out.grown g)
    replace HV := Lib.hid (HV.out.grown g)
    replace HP := Lib.hid (HP.out.grown g)
    replace HX := Lib.hid (HX.out.grown g)
    replace HI := Lib.hid (HI.out.grown g)
    replace Rla := Lib.hid (Rla.out.grown g)
    replace Rlb := Lib.hid (Rlb.out.grown g)
    replace RlU := Lib.hid (RlU.out.grown g)
    replace RlV := Lib.hid (RlV.out.grown g)
    replace HG := Lib.hid (World.grownBy.trans HG.out g)
    clear g
    have HQ := Lib.hid hb
    clear hb
    obtain ⟨rO, eO⟩ : ∃ r, (lessP lU lV (y)).run gV = r := ⟨_, rfl⟩
    obtain ⟨gO, lO⟩ := rO
    have dO := less_den eO HGV.out.1 (by have := NV.out; have := HB.out; have := HGV.out.2; omega) DU.out.2.2 DV.out.2.2
    have hO1 := dO.1.len
    have GO := Lib.hid (show Good gO ∧ gO.length ≤ 500 ∧ Ok gO lO ∧ lO ≤ 9223372036854775807 from ⟨dO.1.good, by have := NV.out; have := HB.out; have := HGV.out.2; omega, dO.2.1, ok_i64 (by have := NV.out; have := HB.out; have := HGV.out.2; omega) dO.2.1⟩)
    have EO := Lib.hid (dO.2.2 vals n m DU.out DV.out)
    have HCO := Lib.hid (fun (W : World) (a : Option Addr) (c : Nat) (b : Option Addr) (d : Nat) (b2 : Option Addr) (d2 : Nat) (hW : GatesW W a c gV) (hr : IntsW W b d lU) (hr2 : IntsW W b2 d2 lV) => less_n NU.out NV.out eO HGV.out.1 DU.out.2.2 DV.out.2.2 (by have := NU.out; have := HB.out; omega) (by have := NV.out; have := HB.out; omega) (by have := NV.out; have := HB.out; have := HGV.out.2; omega) (by have := HY.out; omega) hW hr hr2)
    clear eO dO hO1
    have qc := Hc.out.1
    have qU := HU.out.1
    have qV := HV.out.1
    have qP := HP.out.1
    have qQ := HQ.out.1
    have x0 := HX.out.c0
    have x1 := HX.out.c1
    have x2 := HX.out.c2
    have x3 := HX.out.c3
    have x4 := HX.out.c4
    go_wp2_with fail
    clear qc qU qV qP qQ x0 x1 x2 x3 x4
    refine (HCO.out _ _ _ _ _ _ _ HV.out.2.2 RlU.out RlV.out).mono ?_
    rintro e V13 ⟨a13, c13, rfl, hr, g⟩
    replace Hc := Lib.hid (Hc.out.grown g)
    replace HU := Lib.hid (HU.out.grown g)
    replace HV := Lib.hid (HV.out.grown g)
    replace HP := Lib.hid (HP.out.grown g)
    replace HQ := Lib.hid (HQ.out.grown g)
    replace HX := Lib.hid (HX.out.grown g)
    replace HI := Lib.hid (HI.out.grown g)
    replace Rla := Lib.hid (Rla.out.grown g)
    replace Rlb := Lib.hid (Rlb.out.grown g)
    replace RlU := Lib.hid (RlU.out.grown g)
    replace RlV := Lib.hid (RlV.out.grown g)
    replace HG := Lib.hid (World.grownBy.trans HG.out g)
    clear g
    have qc := Hc.out.1
    have qU := HU.out.1
    have qV := HV.out.1
    have qP := HP.out.1
    have qQ := HQ.out.1
    have x0 := HX.out.c0
    have x1 := HX.out.c1
    have x2 := HX.out.c2
    have x3 := HX.out.c3
    have x4 := HX.out.c4
    go_upto_region 11 with fail
    clear qc qU qV qP qQ x0 x1 x2 x3 x4
    have hb := CB.new hr
    have g := World.grownBy_alloc V13 (.cells #[.slice a13 gO.length c13] 32) none
    obtain ⟨V14, hV14⟩ : ∃ z, World.alloc V13 (.cells #[.slice a13 gO.length c13] 32) = z := ⟨_, rfl⟩
    rw [hV14] at g hb ⊢
    clear hV14 hr
    obtain ⟨bO, hbb⟩ : ∃ b, V13.heap.size = b := ⟨_, rfl⟩
    rw [hbb] at hb ⊢
    clear hbb
    replace Hc := Lib.hid (Hc.out.grown g)
    replace HU := Lib.hid (HU.out.grown g)
    replace HV := Lib.hid (HV.out.grown g)
    replace HP := Lib.hid (HP.out.grown g)
    replace HQ := Lib.hid (HQ.out.grown g)
    replace HX := Lib.hid (HX.out.grown g)
    replace HI := Lib.hid (HI.out.grown g)
    replace Rla := Lib.hid (Rla.out.grown g)
    replace Rlb := Lib.hid (Rlb.out.grown g)
    replace RlU := Lib.hid (RlU.out.grown g)
    replace RlV := Lib.hid (RlV.out.grown g)
    replace HG := Lib.hid (World.grownBy.trans HG.out g)
    clear g
    have HO := Lib.hid hb
    clear hb
    have wy : IntKind.i64.wrap (1 - y) = 1 - y := IntWalk.i64_in _ (by have := HY.out; omega)
    obtain ⟨rD, eD⟩ : ∃ r, (lessP lV lU (1 - y)).run gV = r := ⟨_, rfl⟩
    obtain ⟨gD, lD⟩ := rD
    have dD := less_den eD HGV.out.1 (by have := NU.out; have := HB.out; have := HGV.out.2; omega) DV.out.2.2 DU.out.2.2
    have hD1 := dD.1.len
    have GD := Lib.hid (show Good gD ∧ gD.length ≤ 500 ∧ Ok gD lD ∧ lD ≤ 9223372036854775807 from ⟨dD.1.good, by have := NU.out; have := HB.out; have := HGV.out.2; omega, dD.2.1, ok_i64 (by have := NU.out; have := HB.out; have := HGV.out.2; omega) dD.2.1⟩)
    have ED := Lib.hid (dD.2.2 vals m n DV.out DU.out)
    have HCD := Lib.hid (fun (W : World) (a : Option Addr) (c : Nat) (b : Option Addr) (d : Nat) (b2 : Option Addr) (d2 : Nat) (hW : GatesW W a c gV) (hr : IntsW W b d lV) (hr2 : IntsW W b2 d2 lU) => less_n NV.out NU.out eD HGV.out.1 DV.out.2.2 DU.out.2.2 (by have := NV.out; have := HB.out; omega) (by have := NU.out; have := HB.out; omega) (by have := NU.out; have := HB.out; have := HGV.out.2; omega) (by have := HY.out; omega) hW hr hr2)
    clear eD dD hD1
    have qc := Hc.out.1
    have qU := HU.out.1
    have qV := HV.out.1
    have qP := HP.out.1
    have qQ := HQ.out.1
    have qO := HO.out.1
    have x0 := HX.out.c0
    have x1 := HX.out.c1
    have x2 := HX.out.c2
    have x3 := HX.out.c3
    have x4 := HX.out.c4
    go_wp2_with fail
    clear qc qU qV qP qQ qO x0 x1 x2 x3 x4
    refine (HCD.out _ _ _ _ _ _ _ HV.out.2.2 RlV.out RlU.out).mono ?_
    rintro e V15 ⟨a15, c15, rfl, hr, g⟩
    replace Hc := Lib.hid (Hc.out.grown g)
    replace HU := Lib.hid (HU.out.grown g)
    replace HV := Lib.hid (HV.out.grown g)
    replace HP := Lib.hid (HP.out.grown g)
    replace HQ := Lib.hid (HQ.out.grown g)
    replace HO := Lib.hid (HO.out.grown g)
    replace HX := Lib.hid (HX.out.grown g)
    replace HI := Lib.hid (HI.out.grown g)
    replace Rla := Lib.hid (Rla.out.grown g)
    replace Rlb := Lib.hid (Rlb.out.grown g)
    replace RlU := Lib.hid (RlU.out.grown g)
    replace RlV := Lib.hid (RlV.out.grown g)
    replace HG := Lib.hid (World.grownBy.trans HG.out g)
    clear g
    have qc := Hc.out.1
    have qU := HU.out.1
    have qV := HV.out.1
    have qP := HP.out.1
    have qQ := HQ.out.1
    have qO := HO.out.1
    have x0 := HX.out.c0
    have x1 := HX.out.c1
    have x2 := HX.out.c2
    have x3 := HX.out.c3
    have x4 := HX.out.c4
    go_upto_region 12 with fail
    clear qc qU qV qP qQ qO x0 x1 x2 x3 x4
    have hb := CB.new hr
    have g := World.grownBy_alloc V15 (.cells #[.slice a15 gD.length c15] 32) none
    obtain ⟨V16, hV16⟩ : ∃ z, World.alloc V15 (.cells #[.slice a15 gD.length c15] 32) = z := ⟨_, rfl⟩
    rw [hV16] at g hb ⊢
    clear hV16 hr
    obtain ⟨bD, hbb⟩ : ∃ b, V15.heap.size = b := ⟨_, rfl⟩
    rw [hbb] at hb ⊢
    clear hbb
    replace Hc := Lib.hid (Hc.out.grown g)
    replace HU := Lib.hid (HU.out.grown g)
    replace HV := Lib.hid (HV.out.grown g)
    replace HP := Lib.hid (HP.out.grown g)
    replace HQ := Lib.hid (HQ.out.grown g)
    replace HO := Lib.hid (HO.out.grown g)
    replace HX := Lib.hid (HX.out.grown g)
    replace HI := Lib.hid (HI.out.grown g)
    replace Rla := Lib.hid (Rla.out.grown g)
    replace Rlb := Lib.hid (Rlb.out.grown g)
    replace RlU := Lib.hid (RlU.out.grown g)
    replace RlV := Lib.hid (RlV.out.grown g)
    replace HG := Lib.hid (World.grownBy.trans HG.out g)
    clear g
    have HD := Lib.hid hb
    clear hb
    clear wy
    have wy : IntKind.i64.wrap (y + 1) = y + 1 := IntWalk.i64_in _ (by have := HY.out; omega)
    obtain ⟨rZ, eZ⟩ : ∃ r, (lessP lU lV (y + 1)).run gV = r := ⟨_, rfl⟩
    obtain ⟨gZ, lZ⟩ := rZ
    have dZ := less_den eZ HGV.out.1 (by have := NV.out; have := HB.out; have := HGV.out.2; omega) DU.out.2.2 DV.out.2.2
    have hZ1 := dZ.1.len
    have GZ := Lib.hid (show Good gZ ∧ gZ.length ≤ 500 ∧ Ok gZ lZ ∧ lZ ≤ 9223372036854775807 from ⟨dZ.1.good, by have := NV.out; have := HB.out; have := HGV.out.2; omega, dZ.2.1, ok_i64 (by have := NV.out; have := HB.out; have := HGV.out.2; omega) dZ.2.1⟩)
    have EZ := Lib.hid (dZ.2.2 vals n m DU.out DV.out)
    have HCZ := Lib.hid (fun (W : World) (a : Option Addr) (c : Nat) (b : Option Addr) (d : Nat) (b2 : Option Addr) (d2 : Nat) (hW : GatesW W a c gV) (hr : IntsW W b d lU) (hr2 : IntsW W b2 d2 lV) => less_n NU.out NV.out eZ HGV.out.1 DU.out.2.2 DV.out.2.2 (by have := NU.out; have := HB.out; omega) (by have := NV.out; have := HB.out; omega) (by have := NV.out; have := HB.out; have := HGV.out.2; omega) (by have := HY.out; omega) hW hr hr2)
    clear eZ dZ hZ1
    have qc := Hc.out.1
    have qU := HU.out.1
    have qV := HV.out.1
    have qP := HP.out.1
    have qQ := HQ.out.1
    have qO := HO.out.1
    have qD := HD.out.1
    have x0 := HX.out.c0
    have x1 := HX.out.c1
    have x2 := HX.out.c2
    have x3 := HX.out.c3
    have x4 := HX.out.c4
    go_wp2_with fail
    clear qc qU qV qP qQ qO qD x0 x1 x2 x3 x4
    refine (HCZ.out _ _ _ _ _ _ _ HV.out.2.2 RlU.out RlV.out).mono ?_
    rintro e V17 ⟨a17, c17, rfl, hr, g⟩
    replace Hc := Lib.hid (Hc.out.grown g)
    replace HU := Lib.hid (HU.out.grown g)
    replace HV := Lib.hid (HV.out.grown g)
    replace HP := Lib.hid (HP.out.grown g)
    replace HQ := Lib.hid (HQ.out.grown g)
    replace HO := Lib.hid (HO.out.grown g)
    replace HD := Lib.hid (HD.out.grown g)
    replace HX := Lib.hid (HX.out.grown g)
    replace HI := Lib.hid (HI.out.grown g)
    replace Rla := Lib.hid (Rla.out.grown g)
    replace Rlb := Lib.hid (Rlb.out.grown g)
    replace RlU := Lib.hid (RlU.out.grown g)
    replace RlV := Lib.hid (RlV.out.grown g)
    replace HG := Lib.hid (World.grownBy.trans HG.out g)
    clear g
    have qc := Hc.out.1
    have qU := HU.out.1
    have qV := HV.out.1
    have qP := HP.out.1
    have qQ := HQ.out.1
    have qO := HO.out.1
    have qD := HD.out.1
    have x0 := HX.out.c0
    have x1 := HX.out.c1
    have x2 := HX.out.c2
    have x3 := HX.out.c3
    have x4 := HX.out.c4
    go_upto_region 13 with fail
    clear qc qU qV qP qQ qO qD x0 x1 x2 x3 x4
    have hb := CB.new hr
    have g := World.grownBy_alloc V17 (.cells #[.slice a17 gZ.length c17] 32) none
    obtain ⟨V18, hV18⟩ : ∃ z, World.alloc V17 (.cells #[.slice a17 gZ.length c17] 32) = z := ⟨_, rfl⟩
    rw [hV18] at g hb ⊢
    clear hV18 hr
    obtain ⟨bZ, hbb⟩ : ∃ b, V17.heap.size = b := ⟨_, rfl⟩
    rw [hbb] at hb ⊢
    clear hbb
    replace Hc := Lib.hid (Hc.out.grown g)
    replace HU := Lib.hid (HU.out.grown g)
    replace HV := Lib.hid (HV.out.grown g)
    replace HP := Lib.hid (HP.out.grown g)
    replace HQ := Lib.hid (HQ.out.grown g)
    replace HO := Lib.hid (HO.out.grown g)
    replace HD := Lib.hid (HD.out.grown g)
    replace HX := Lib.hid (HX.out.grown g)
    replace HI := Lib.hid (HI.out.grown g)
    replace Rla := Lib.hid (Rla.out.grown g)
    replace Rlb := Lib.hid (Rlb.out.grown g)
    replace RlU := Lib.hid (RlU.out.grown g)
    replace RlV := Lib.hid (RlV.out.grown g)
    replace HG := Lib.hid (World.grownBy.trans HG.out g)
    clear g
    have HZ := Lib.hid hb
    clear hb
    clear wy
    obtain ⟨p, hp⟩ : ∃ p, evalC gP vals lP = p := ⟨_, rfl⟩
    obtain ⟨q, hq⟩ : ∃ p, evalC gQ vals lQ = p := ⟨_, rfl⟩
    obtain ⟨o, ho⟩ : ∃ p, evalC gO vals lO = p := ⟨_, rfl⟩
    obtain ⟨d, hd⟩ : ∃ p, evalC gD vals lD = p := ⟨_, rfl⟩
    obtain ⟨x, hx⟩ : ∃ p, evalC gZ vals lZ = p := ⟨_, rfl⟩
    obtain ⟨s, hs⟩ : ∃ p, decide (n = m) = p := ⟨_, rfl⟩
    have HF := Lib.hid (cmp_facts (hp.symm.trans EP.out) (hq.symm.trans EQ.out) hs.symm (ho.symm.trans EO.out) (hd.symm.trans ED.out) (hx.symm.trans EZ.out))
    have HNV := Lib.hid HN.out.2.2.2
    have HV20 := Lib.hid (show vals.length ≤ 1000 from by have := HN.out.2.2.2; have := HGN.out.2.2.2; omega)
    have HEP := Lib.hid (fun (W : World) (a : Option Addr) (c : Nat) (hW : GatesW W a c gP) (hv : BoolsW W va vc vals) => reval_n gP vals lP p HNV.out hp (by have := GP.out.2.1; omega) HV20.out GP.out.1 GP.out.2.2.2 hW hv)
    have HEQ := Lib.hid (fun (W : World) (a : Option Addr) (c : Nat) (hW : GatesW W a c gQ) (hv : BoolsW W va vc vals) => reval_n gQ vals lQ q HNV.out hq (by have := GQ.out.2.1; omega) HV20.out GQ.out.1 GQ.out.2.2.2 hW hv)
    have HEO := Lib.hid (fun (W : World) (a : Option Addr) (c : Nat) (hW : GatesW W a c gO) (hv : BoolsW W va vc vals) => reval_n gO vals lO o HNV.out ho (by have := GO.out.2.1; omega) HV20.out GO.out.1 GO.out.2.2.2 hW hv)
    have HED := Lib.hid (fun (W : World) (a : Option Addr) (c : Nat) (hW : GatesW W a c gD) (hv : BoolsW W va vc vals) => reval_n gD vals lD d HNV.out hd (by have := GD.out.2.1; omega) HV20.out GD.out.1 GD.out.2.2.2 hW hv)
    have HEZ := Lib.hid (fun (W : World) (a : Option Addr) (c : Nat) (hW : GatesW W a c gZ) (hv : BoolsW W va vc vals) => reval_n gZ vals lZ x HNV.out hx (by have := GZ.out.2.1; omega) HV20.out GZ.out.1 GZ.out.2.2.2 hW hv)
    have HS0 := Lib.hid hs
    clear hp hq ho hd hx hs EP EQ EO ED EZ
    have qc := Hc.out.1
    have qU := HU.out.1
    have qV := HV.out.1
    have qP := HP.out.1
    have qQ := HQ.out.1
    have qO := HO.out.1
    have qD := HD.out.1
    have qZ := HZ.out.1
    have x0 := HX.out.c0
    have x1 := HX.out.c1
    have x2 := HX.out.c2
    have x3 := HX.out.c3
    have x4 := HX.out.c4
    go_wp2_with fail
    clear qc qU qV qP qQ qO qD qZ x0 x1 x2 x3 x4
    refine (HEP.out _ _ _ HP.out.2.2 HI.out.v).mono ?_
    rintro e V19 ⟨rfl, g⟩
    replace Hc := Lib.hid (Hc.out.grown g)
    replace HU := Lib.hid (HU.out.grown g)
    replace HV := Lib.hid (HV.out.grown g)
    replace HP := Lib.hid (HP.out.grown g)
    replace HQ := Lib.hid (HQ.out.grown g)
    replace HO := Lib.hid (HO.out.grown g)
    replace HD := Lib.hid (HD.out.grown g)
    replace HZ := Lib.hid (HZ.out.grown g)
    replace HX := Lib.hid (HX.out.grown g)
    replace HI := Lib.hid (HI.out.grown g)
    replace Rla := Lib.hid (Rla.out.grown g)
    replace Rlb := Lib.hid (Rlb.out.grown g)
    replace RlU := Lib.hid (RlU.out.grown g)
    replace RlV := Lib.hid (RlV.out.grown g)
    replace HG := Lib.hid (World.grownBy.trans HG.out g)
    clear g
    have qc := Hc.out.1
    have qU := HU.out.1
    have qV := HV.out.1
    have qP := HP.out.1
    have qQ := HQ.out.1
    have qO := HO.out.1
    have qD := HD.out.1
    have qZ := HZ.out.1
    have x0 := HX.out.c0
    have x1 := HX.out.c1
    have x2 := HX.out.c2
    have x3 := HX.out.c3
    have x4 := HX.out.c4
    go_wp2_with fail
    clear qc qU qV qP qQ qO qD qZ x0 x1 x2 x3 x4
    refine (HEQ.out _ _ _ HQ.out.2.2 HI.out.v).mono ?_
    rintro e V20 ⟨rfl, g⟩
    replace Hc := Lib.hid (Hc.out.grown g)
    replace HU := Lib.hid (HU.out.grown g)
    replace HV := Lib.hid (HV.out.grown g)
    replace HP := Lib.hid (HP.out.grown g)
    replace HQ := Lib.hid (HQ.out.grown g)
    replace HO := Lib.hid (HO.out.grown g)
    replace HD := Lib.hid (HD.out.grown g)
    replace HZ := Lib.hid (HZ.out.grown g)
    replace HX := Lib.hid (HX.out.grown g)
    replace HI := Lib.hid (HI.out.grown g)
    replace Rla := Lib.hid (Rla.out.grown g)
    replace Rlb := Lib.hid (Rlb.out.grown g)
    replace RlU := Lib.hid (RlU.out.grown g)
    replace RlV := Lib.hid (RlV.out.grown g)
    replace HG := Lib.hid (World.grownBy.trans HG.out g)
    clear g
    have qc := Hc.out.1
    have qU := HU.out.1
    have qV := HV.out.1
    have qP := HP.out.1
    have qQ := HQ.out.1
    have qO := HO.out.1
    have qD := HD.out.1
    have qZ := HZ.out.1
    have x0 := HX.out.c0
    have x1 := HX.out.c1
    have x2 := HX.out.c2
    have x3 := HX.out.c3
    have x4 := HX.out.c4
    go_upto_region 15 with fail
    clear qc qU qV qP qQ qO qD qZ x0 x1 x2 x3 x4
    go_cut [24] (fun s0 wx => s0 = .bool s ∧ V20.grownBy wx none)
    case first =>
      have HS := Lib.hid (fun (Wh : World) (hWh : V20.grownBy Wh none) => (⟨hWh, hWh.cell HV.out.1 (by simp), hWh.cell HX.out.c3 (by simp)⟩ : (fun Wh : World => V20.grownBy Wh none ∧ Wh.cell? ⟨bV, 0, none⟩ = some (.slice a7 gV.length c7) ∧ Wh.cell? ⟨bX, 3, none⟩ = some (.slice va nv vc)) Wh))
      have hdr : V20.grownBy V20.drew none := ⟨rfl, rfl, rfl, Nat.le_refl _, fun _ _ _ => rfl⟩
      refine wp_region_held_drew (S := (fun Wh : World => V20.grownBy Wh none ∧ Wh.cell? ⟨bV, 0, none⟩ = some (.slice a7 gV.length c7) ∧ Wh.cell? ⟨bX, 3, none⟩ = some (.slice va nv vc))) (by kernel_rfl) (HS.out _ hdr) (fun hHeld => ?_)
      refine wpAnyH_take (i := 0) (oi := { dst := some 101, op := Op.load 32 (Operand.tmp 9), type := 32, pos := "law.go:284", after := #[], guard := none }) (v := ?_) rfl (by kernel_rfl) (by kernel_rfl) (by kernel_rfl) (fun _ _ _ h => h) (Or.inl ⟨by rfl, ?_⟩) (by assumption) ?_
      rotate_left 1
      · (intro W hSW; (try dsimp only at hSW); first | (go_simp; done) | (go_simp; with_reducible rfl))
      try simp only [Act.put, List.setIfInBounds_toArray, List.set_cons_zero, List.set_cons_succ]
      refine wpAnyH_take (i := 1) (oi := { dst := some 102, op := Op.move (Operand.tmp 8), type := 33, pos := "law.go:284", after := #[], guard := none }) (v := ?_) rfl (by kernel_rfl) (by kernel_rfl) (by kernel_rfl) (fun _ _ _ h => h) (Or.inl ⟨by rfl, ?_⟩) (by assumption) ?_
      rotate_left 1
      · (intro W hSW; (try dsimp only at hSW); first | (go_simp; done) | (go_simp; with_reducible rfl))
      try simp only [Act.put, List.setIfInBounds_toArray, List.set_cons_zero, List.set_cons_succ]
      refine wpAnyH_take (i := 2) (oi := { dst := some 103, op := Op.fieldAddr 27 (Operand.tmp 1) 3, type := 0, pos := "law.go:284", after := #[], guard := none }) (v := ?_) rfl (by kernel_rfl) (by kernel_rfl) (by kernel_rfl) (fun _ _ _ h => h) (Or.inl ⟨by rfl, ?_⟩) (by assumption) ?_
      rotate_left 1
      · (intro W hSW; (try dsimp only at hSW); first | (go_simp; done) | (go_simp; with_reducible rfl))
      try simp only [Act.put, List.setIfInBounds_toArray, List.set_cons_zero, List.set_cons_succ]
      refine wpAnyH_take (i := 3) (oi := { dst := some 104, op := Op.load 24 (Operand.tmp 103), type := 24, pos := "law.go:284", after := #[{ on := 2, ground := Ground.data }], guard := none }) (v := ?_) rfl (by kernel_rfl) (by kernel_rfl) (by kernel_rfl) (fun _ _ _ h => h) (Or.inl ⟨by rfl, ?_⟩) (by assumption) ?_
      rotate_left 1
      · (intro W hSW; (try dsimp only at hSW); first | (go_simp; done) | (go_simp; with_reducible rfl))
      try simp only [Act.put, List.setIfInBounds_toArray, List.set_cons_zero, List.set_cons_succ]
      refine wpAnyH_take (i := 5) (oi := { dst := some 106, op := Op.load 32 (Operand.tmp 9), type := 32, pos := "law.go:284", after := #[], guard := none }) (v := ?_) rfl (by kernel_rfl) (by kernel_rfl) (by kernel_rfl) (fun _ _ _ h => h) (Or.inl ⟨by rfl, ?_⟩) (by assumption) ?_
      rotate_left 1
      · (intro W hSW; (try dsimp only at hSW); first | (go_simp; done) | (go_simp; with_reducible rfl))
      try simp only [Act.put, List.setIfInBounds_toArray, List.set_cons_zero, List.set_cons_succ]
      refine wpAnyH_take (i := 6) (oi := { dst := some 107, op := Op.move (Operand.tmp 10), type := 33, pos := "law.go:284", after := #[], guard := none }) (v := ?_) rfl (by kernel_rfl) (by kernel_rfl) (by kernel_rfl) (fun _ _ _ h => h) (Or.inl ⟨by rfl, ?_⟩) (by assumption) ?_
      rotate_left 1
      · (intro W hSW; (try dsimp only at hSW); first | (go_simp; done) | (go_simp; with_reducible rfl))
      try simp only [Act.put, List.setIfInBounds_toArray, List.set_cons_zero, List.set_cons_succ]
      refine wpAnyH_take (i := 7) (oi := { dst := some 108, op := Op.fieldAddr 27 (Operand.tmp 1) 3, type := 0, pos := "law.go:284", after := #[], guard := none }) (v := ?_) rfl (by kernel_rfl) (by kernel_rfl) (by kernel_rfl) (fun _ _ _ h => h) (Or.inl ⟨by rfl, ?_⟩) (by assumption) ?_
      rotate_left 1
      · (intro W hSW; (try dsimp only at hSW); first | (go_simp; done) | (go_simp; with_reducible rfl))
      try simp only [Act.put, List.setIfInBounds_toArray, List.set_cons_zero, List.set_cons_succ]
      refine wpAnyH_take (i := 8) (oi := { dst := some 109, op := Op.load 24 (Operand.tmp 108), type := 24, pos := "law.go:284", after := #[{ on := 7, ground := Ground.data }], guard := none }) (v := ?_) rfl (by kernel_rfl) (by kernel_rfl) (by kernel_rfl) (fun _ _ _ h => h) (Or.inl ⟨by rfl, ?_⟩) (by assumption) ?_
      rotate_left 1
      · (intro W hSW; (try dsimp only at hSW); first | (go_simp; done) | (go_simp; with_reducible rfl))
      try simp only [Act.put, List.setIfInBounds_toArray, List.set_cons_zero, List.set_cons_succ]
      refine wpAnyH_ready (rs := [4]) (by kernel_rfl) (by simp) ?_
      refine (AllReadyH.cons (o := { dst := some 105, op := Op.call { callee := Callee.value (Operand.func 13), args := #[Operand.tmp 101, Operand.tmp 102, Operand.tmp 104], argTypes := #[32, 33, 24] }, type := 3, pos := "law.go:284", after := #[{ on := 0, ground := Ground.data }, { on := 1, ground := Ground.data }, { on := 3, ground := Ground.data }], guard := none }) rfl (fun K hK => ?_) AllReadyH.nil)
      rw [if_pos (by rfl)]
      go_simp
      go_at_call 13
      refine (number_n NU.out HNV.out DU.out.numE HGV.out.1 (by have := HGV.out.2; omega) (by have := NU.out; have := HB.out; omega) HV20.out (ok_le (by have := HGV.out.2; omega) DU.out.2.2) ((HV.out.grown hdr).2.2) (RlU.out.grown hdr) (HI.out.v.grown hdr)).mono ?_
      rintro e wc1 ⟨rfl, gc1⟩
      have hgr1 := World.grownBy.trans hdr gc1
      go_wp2_with fail
      refine hK.out _ _ (HS.out _ hgr1) (fun hHeld => ?_)
      clear hK K
      try simp only [Act.put, List.setIfInBounds_toArray, List.set_cons_zero, List.set_cons_succ]
      refine wpAnyH_ready (rs := [9]) (by kernel_rfl) (by simp) ?_
      refine (AllReadyH.cons (o := { dst := some 110, op := Op.call { callee := Callee.value (Operand.func 13), args := #[Operand.tmp 106, Operand.tmp 107, Operand.tmp 109], argTypes := #[32, 33, 24] }, type := 3, pos := "law.go:284", after := #[{ on := 5, ground := Ground.data }, { on := 6, ground := Ground.data }, { on := 8, ground := Ground.data }, { on := 4, ground := Ground.chain }], guard := none }) rfl (fun K hK => ?_) AllReadyH.nil)
      rw [if_pos (by rfl)]
      go_simp
      go_at_call 13
      refine (number_n NV.out HNV.out DV.out.numE HGV.out.1 (by have := HGV.out.2; omega) (by have := NV.out; have := HB.out; omega) HV20.out (ok_le (by have := HGV.out.2; omega) DV.out.2.2) ((HV.out.grown hgr1).2.2) (RlV.out.grown hgr1) (HI.out.v.grown hgr1)).mono ?_
      rintro e wc2 ⟨rfl, gc2⟩
      have hgr2 := World.grownBy.trans hgr1 gc2
      go_wp2_with fail
      refine hK.out _ _ (HS.out _ hgr2) (fun hHeld => ?_)
      clear hK K
      try simp only [Act.put, List.setIfInBounds_toArray, List.set_cons_zero, List.set_cons_succ]
      refine wpAnyH_take (i := 10) (oi := { dst := some 111, op := Op.binOp BinOp.eql 3 (Operand.tmp 105) (Operand.tmp 110) 3, type := 4, pos := "law.go:284", after := #[{ on := 4, ground := Ground.data }, { on := 9, ground := Ground.data }], guard := none }) (v := ?_) rfl (by kernel_rfl) (by kernel_rfl) (by kernel_rfl) (fun _ _ _ h => h) (Or.inl ⟨by rfl, ?_⟩) (by assumption) ?_
      rotate_left 1
      · (intro W hSW; (try dsimp only at hSW); first | (go_simp; done) | (go_simp; with_reducible rfl))
      try simp only [Act.put, List.setIfInBounds_toArray, List.set_cons_zero, List.set_cons_succ]
      refine wpAnyH_take (i := 11) (oi := { dst := some 24, op := Op.assign (Operand.tmp 111), type := 4, pos := "law.go:284", after := #[{ on := 10, ground := Ground.data }, { on := 9, ground := Ground.chain }, { on := 0, ground := Ground.phase }, { on := 1, ground := Ground.phase }, { on := 2, ground := Ground.phase }, { on := 3, ground := Ground.phase }, { on := 4, ground := Ground.phase }, { on := 5, ground := Ground.phase }, { on := 6, ground := Ground.phase }, { on := 7, ground := Ground.phase }, { on := 8, ground := Ground.phase }, { on := 9, ground := Ground.phase }, { on := 10, ground := Ground.phase }], guard := none }) (v := ?_) rfl (by kernel_rfl) (by kernel_rfl) (by kernel_rfl) (fun _ _ _ h => h) (Or.inl ⟨by rfl, ?_⟩) (by assumption) ?_
      rotate_left 1
      · (intro W hSW; (try dsimp only at hSW); first | (go_simp; done) | (go_simp; with_reducible rfl))
      try simp only [Act.put, List.setIfInBounds_toArray, List.set_cons_zero, List.set_cons_succ]
      refine wpAnyH_done (by kernel_rfl) ?_ _
      have hEND := hgr2
      clear hHeld
      go_wp2_with fail
      go_meet
      exact ⟨by rw [← HS0.out]; congr 1; exact bool_eq_dec n m, hEND⟩
    obtain ⟨rfl, g⟩ := hcut
    obtain ⟨V21, rfl⟩ : ∃ z, z = wc := ⟨_, rfl⟩
    replace Hc := Lib.hid (Hc.out.grown g)
    replace HU := Lib.hid (HU.out.grown g)
    replace HV := Lib.hid (HV.out.grown g)
    replace HP := Lib.hid (HP.out.grown g)
    replace HQ := Lib.hid (HQ.out.grown g)
    replace HO := Lib.hid (HO.out.grown g)
    replace HD := Lib.hid (HD.out.grown g)
    replace HZ := Lib.hid (HZ.out.grown g)
    replace HX := Lib.hid (HX.out.grown g)
    replace HI := Lib.hid (HI.out.grown g)
    replace Rla := Lib.hid (Rla.out.grown g)
    replace Rlb := Lib.hid (Rlb.out.grown g)
    replace RlU := Lib.hid (RlU.out.grown g)
    replace RlV := Lib.hid (RlV.out.grown g)
    replace HG := Lib.hid (World.grownBy.trans HG.out g)
    clear g
    have qc := Hc.out.1
    have qU := HU.out.1
    have qV := HV.out.1
    have qP := HP.out.1
    have qQ := HQ.out.1
    have qO := HO.out.1
    have qD := HD.out.1
    have qZ := HZ.out.1
    have x0 := HX.out.c0
    have x1 := HX.out.c1
    have x2 := HX.out.c2
    have x3 := HX.out.c3
    have x4 := HX.out.c4
    go_upto_region 16 with fail
    clear qc qU qV qP qQ qO qD qZ x0 x1 x2 x3 x4
    have qc := Hc.out.1
    have qU := HU.out.1
    have qV := HV.out.1
    have qP := HP.out.1
    have qQ := HQ.out.1
    have qO := HO.out.1
    have qD := HD.out.1
    have qZ := HZ.out.1
    have x0 := HX.out.c0
    have x1 := HX.out.c1
    have x2 := HX.out.c2
    have x3 := HX.out.c3
    have x4 := HX.out.c4
    go_wp2_with fail
    clear qc qU qV qP qQ qO qD qZ x0 x1 x2 x3 x4
    refine (HEO.out _ _ _ HO.out.2.2 HI.out.v).mono ?_
    rintro e V22 ⟨rfl, g⟩
    replace Hc := Lib.hid (Hc.out.grown g)
    replace HU := Lib.hid (HU.out.grown g)
    replace HV := Lib.hid (HV.out.grown g)
    replace HP := Lib.hid (HP.out.grown g)
    replace HQ := Lib.hid (HQ.out.grown g)
    replace HO := Lib.hid (HO.out.grown g)
    replace HD := Lib.hid (HD.out.grown g)
    replace HZ := Lib.hid (HZ.out.grown g)
    replace HX := Lib.hid (HX.out.grown g)
    replace HI := Lib.hid (HI.out.grown g)
    replace Rla := Lib.hid (Rla.out.grown g)
    replace Rlb := Lib.hid (Rlb.out.grown g)
    replace RlU := Lib.hid (RlU.out.grown g)
    replace RlV := Lib.hid (RlV.out.grown g)
    replace HG := Lib.hid (World.grownBy.trans HG.out g)
    clear g
    obtain ⟨h1, h2⟩ := HF.out
    rcases h1 with ⟨rfl, rfl, rfl⟩ | ⟨rfl, rfl, rfl⟩ | ⟨rfl, rfl, rfl⟩ <;> rcases h2 with ⟨rfl, rfl, rfl⟩ | ⟨rfl, rfl⟩
    · skip
      have qc := Hc.out.1
      have qU := HU.out.1
      have qV := HV.out.1
      have qP := HP.out.1
      have qQ := HQ.out.1
      have qO := HO.out.1
      have qD := HD.out.1
      have qZ := HZ.out.1
      have x0 := HX.out.c0
      have x1 := HX.out.c1
      have x2 := HX.out.c2
      have x3 := HX.out.c3
      have x4 := HX.out.c4
      go_wp2_with fail
      clear qc qU qV qP qQ qO qD qZ x0 x1 x2 x3 x4
      refine (HED.out _ _ _ HD.out.2.2 HI.out.v).mono ?_
      rintro e V23 ⟨rfl, g⟩
      replace Hc := Lib.hid (Hc.out.grown g)
      replace HU := Lib.hid (HU.out.grown g)
      replace HV := Lib.hid (HV.out.grown g)
      replace HP := Lib.hid (HP.out.grown g)
      replace HQ := Lib.hid (HQ.out.grown g)
      replace HO := Lib.hid (HO.out.grown g)
      replace HD := Lib.hid (HD.out.grown g)
      replace HZ := Lib.hid (HZ.out.grown g)
      replace HX := Lib.hid (HX.out.grown g)
      replace HI := Lib.hid (HI.out.grown g)
      replace Rla := Lib.hid (Rla.out.grown g)
      replace Rlb := Lib.hid (Rlb.out.grown g)
      replace RlU := Lib.hid (RlU.out.grown g)
      replace RlV := Lib.hid (RlV.out.grown g)
      replace HG := Lib.hid (World.grownBy.trans HG.out g)
      clear g
      have qc := Hc.out.1
      have qU := HU.out.1
      have qV := HV.out.1
      have qP := HP.out.1
      have qQ := HQ.out.1
      have qO := HO.out.1
      have qD := HD.out.1
      have qZ := HZ.out.1
      have x0 := HX.out.c0
      have x1 := HX.out.c1
      have x2 := HX.out.c2
      have x3 := HX.out.c3
      have x4 := HX.out.c4
      go_wp2_with fail
      clear qc qU qV qP qQ qO qD qZ x0 x1 x2 x3 x4
      refine (HEZ.out _ _ _ HZ.out.2.2 HI.out.v).mono ?_
      rintro e V24 ⟨rfl, g⟩
      replace Hc := Lib.hid (Hc.out.grown g)
      replace HU := Lib.hid (HU.out.grown g)
      replace HV := Lib.hid (HV.out.grown g)
      replace HP := Lib.hid (HP.out.grown g)
      replace HQ := Lib.hid (HQ.out.grown g)
      replace HO := Lib.hid (HO.out.grown g)
      replace HD := Lib.hid (HD.out.grown g)
      replace HZ := Lib.hid (HZ.out.grown g)
      replace HX := Lib.hid (HX.out.grown g)
      replace HI := Lib.hid (HI.out.grown g)
      replace Rla := Lib.hid (Rla.out.grown g)
      replace Rlb := Lib.hid (Rlb.out.grown g)
      replace RlU := Lib.hid (RlU.out.grown g)
      replace RlV := Lib.hid (RlV.out.grown g)
      replace HG := Lib.hid (World.grownBy.trans HG.out g)
      clear g
      go_wp2_with fail
      go_ret
      exact ⟨rfl, HG.out⟩
    · skip
      have qc := Hc.out.1
      have qU := HU.out.1
      have qV := HV.out.1
      have qP := HP.out.1
      have qQ := HQ.out.1
      have qO := HO.out.1
      have qD := HD.out.1
      have qZ := HZ.out.1
      have x0 := HX.out.c0
      have x1 := HX.out.c1
      have x2 := HX.out.c2
      have x3 := HX.out.c3
      have x4 := HX.out.c4
      go_wp2_with fail
      clear qc qU qV qP qQ qO qD qZ x0 x1 x2 x3 x4
      refine (HED.out _ _ _ HD.out.2.2 HI.out.v).mono ?_
      rintro e V25 ⟨rfl, g⟩
      replace Hc := Lib.hid (Hc.out.grown g)
      replace HU := Lib.hid (HU.out.grown g)
      replace HV := Lib.hid (HV.out.grown g)
      replace HP := Lib.hid (HP.out.grown g)
      replace HQ := Lib.hid (HQ.out.grown g)
      replace HO := Lib.hid (HO.out.grown g)
      replace HD := Lib.hid (HD.out.grown g)
      replace HZ := Lib.hid (HZ.out.grown g)
      replace HX := Lib.hid (HX.out.grown g)
      replace HI := Lib.hid (HI.out.grown g)
      replace Rla := Lib.hid (Rla.out.grown g)
      replace Rlb := Lib.hid (Rlb.out.grown g)
      replace RlU := Lib.hid (RlU.out.grown g)
      replace RlV := Lib.hid (RlV.out.grown g)
      replace HG := Lib.hid (World.grownBy.trans HG.out g)
      clear g
      go_wp2_with fail
      go_ret
      exact ⟨rfl, HG.out⟩
    · skip
      have qc := Hc.out.1
      have qU := HU.out.1
      have qV := HV.out.1
      have qP := HP.out.1
      have qQ := HQ.out.1
      have qO := HO.out.1
      have qD := HD.out.1
      have qZ := HZ.out.1
      have x0 := HX.out.c0
      have x1 := HX.out.c1
      have x2 := HX.out.c2
      have x3 := HX.out.c3
      have x4 := HX.out.c4
      go_wp2_with fail
      clear qc qU qV qP qQ qO qD qZ x0 x1 x2 x3 x4
      refine (HED.out _ _ _ HD.out.2.2 HI.out.v).mono ?_
      rintro e V26 ⟨rfl, g⟩
      replace Hc := Lib.hid (Hc.out.grown g)
      replace HU := Lib.hid (HU.out.grown g)
      replace HV := Lib.hid (HV.out.grown g)
      replace HP := Lib.hid (HP.out.grown g)
      replace HQ := Lib.hid (HQ.out.grown g)
      replace HO := Lib.hid (HO.out.grown g)
      replace HD := Lib.hid (HD.out.grown g)
      replace HZ := Lib.hid (HZ.out.grown g)
      replace HX := Lib.hid (HX.out.grown g)
      replace HI := Lib.hid (HI.out.grown g)
      replace Rla := Lib.hid (Rla.out.grown g)
      replace Rlb := Lib.hid (Rlb.out.grown g)
      replace RlU := Lib.hid (RlU.out.grown g)
      replace RlV := Lib.hid (RlV.out.grown g)
      replace HG := Lib.hid (World.grownBy.trans HG.out g)
      clear g
      have qc := Hc.out.1
      have qU := HU.out.1
      have qV := HV.out.1
      have qP := HP.out.1
      have qQ := HQ.out.1
      have qO := HO.out.1
      have qD := HD.out.1
      have qZ := HZ.out.1
      have x0 := HX.out.c0
      have x1 := HX.out.c1
      have x2 := HX.out.c2
      have x3 := HX.out.c3
      have x4 := HX.out.c4
      go_wp2_with fail
      clear qc qU qV qP qQ qO qD qZ x0 x1 x2 x3 x4
      refine (HEZ.out _ _ _ HZ.out.2.2 HI.out.v).mono ?_
      rintro e V27 ⟨rfl, g⟩
      replace Hc := Lib.hid (Hc.out.grown g)
      replace HU := Lib.hid (HU.out.grown g)
      replace HV := Lib.hid (HV.out.grown g)
      replace HP := Lib.hid (HP.out.grown g)
      replace HQ := Lib.hid (HQ.out.grown g)
      replace HO := Lib.hid (HO.out.grown g)
      replace HD := Lib.hid (HD.out.grown g)
      replace HZ := Lib.hid (HZ.out.grown g)
      replace HX := Lib.hid (HX.out.grown g)
      replace HI := Lib.hid (HI.out.grown g)
      replace Rla := Lib.hid (Rla.out.grown g)
      replace Rlb := Lib.hid (Rlb.out.grown g)
      replace RlU := Lib.hid (RlU.out.grown g)
      replace RlV := Lib.hid (RlV.out.grown g)
      replace HG := Lib.hid (World.grownBy.trans HG.out g)
      clear g
      go_wp2_with fail
      go_ret
      exact ⟨rfl, HG.out⟩
    · skip
      have qc := Hc.out.1
      have qU := HU.out.1
      have qV := HV.out.1
      have qP := HP.out.1
      have qQ := HQ.out.1
      have qO := HO.out.1
      have qD := HD.out.1
      have qZ := HZ.out.1
      have x0 := HX.out.c0
      have x1 := HX.out.c1
      have x2 := HX.out.c2
      have x3 := HX.out.c3
      have x4 := HX.out.c4
      go_wp2_with fail
      clear qc qU qV qP qQ qO qD qZ x0 x1 x2 x3 x4
      refine (HED.out _ _ _ HD.out.2.2 HI.out.v).mono ?_
      rintro e V28 ⟨rfl, g⟩
      replace Hc := Lib.hid (Hc.out.grown g)
      replace HU := Lib.hid (HU.out.grown g)
      replace HV := Lib.hid (HV.out.grown g)
      replace HP := Lib.hid (HP.out.grown g)
      replace HQ := Lib.hid (HQ.out.grown g)
      replace HO := Lib.hid (HO.out.grown g)
      replace HD := Lib.hid (HD.out.grown g)
      replace HZ := Lib.hid (HZ.out.grown g)
      replace HX := Lib.hid (HX.out.grown g)
      replace HI := Lib.hid (HI.out.grown g)
      replace Rla := Lib.hid (Rla.out.grown g)
      replace Rlb := Lib.hid (Rlb.out.grown g)
      replace RlU := Lib.hid (RlU.out.grown g)
      replace RlV := Lib.hid (RlV.out.grown g)
      replace HG := Lib.hid (World.grownBy.trans HG.out g)
      clear g
      go_wp2_with fail
      go_ret
      exact ⟨rfl, HG.out⟩
    · skip
      have qc := Hc.out.1
      have qU := HU.out.1
      have qV := HV.out.1
      have qP := HP.out.1
      have qQ := HQ.out.1
      have qO := HO.out.1
      have qD := HD.out.1
      have qZ := HZ.out.1
      have x0 := HX.out.c0
      have x1 := HX.out.c1
      have x2 := HX.out.c2
      have x3 := HX.out.c3
      have x4 := HX.out.c4
      go_wp2_with fail
      clear qc qU qV qP qQ qO qD qZ x0 x1 x2 x3 x4
      refine (HED.out _ _ _ HD.out.2.2 HI.out.v).mono ?_
      rintro e V29 ⟨rfl, g⟩
      replace Hc := Lib.hid (Hc.out.grown g)
      replace HU := Lib.hid (HU.out.grown g)
      replace HV := Lib.hid (HV.out.grown g)
      replace HP := Lib.hid (HP.out.grown g)
      replace HQ := Lib.hid (HQ.out.grown g)
      replace HO := Lib.hid (HO.out.grown g)
      replace HD := Lib.hid (HD.out.grown g)
      replace HZ := Lib.hid (HZ.out.grown g)
      replace HX := Lib.hid (HX.out.grown g)
      replace HI := Lib.hid (HI.out.grown g)
      replace Rla := Lib.hid (Rla.out.grown g)
      replace Rlb := Lib.hid (Rlb.out.grown g)
      replace RlU := Lib.hid (RlU.out.grown g)
      replace RlV := Lib.hid (RlV.out.grown g)
      replace HG := Lib.hid (World.grownBy.trans HG.out g)
      clear g
      have qc := Hc.out.1
      have qU := HU.out.1
      have qV := HV.out.1
      have qP := HP.out.1
      have qQ := HQ.out.1
      have qO := HO.out.1
      have qD := HD.out.1
      have qZ := HZ.out.1
      have x0 := HX.out.c0
      have x1 := HX.out.c1
      have x2 := HX.out.c2
      have x3 := HX.out.c3
      have x4 := HX.out.c4
      go_wp2_with fail
      clear qc qU qV qP qQ qO qD qZ x0 x1 x2 x3 x4
      refine (HEZ.out _ _ _ HZ.out.2.2 HI.out.v).mono ?_
      rintro e V30 ⟨rfl, g⟩
      replace Hc := Lib.hid (Hc.out.grown g)
      replace HU := Lib.hid (HU.out.grown g)
      replace HV := Lib.hid (HV.out.grown g)
      replace HP := Lib.hid (HP.out.grown g)
      replace HQ := Lib.hid (HQ.out.grown g)
      replace HO := Lib.hid (HO.out.grown g)
      replace HD := Lib.hid (HD.out.grown g)
      replace HZ := Lib.hid (HZ.out.grown g)
      replace HX := Lib.hid (HX.out.grown g)
      replace HI := Lib.hid (HI.out.grown g)
      replace Rla := Lib.hid (Rla.out.grown g)
      replace Rlb := Lib.hid (Rlb.out.grown g)
      replace RlU := Lib.hid (RlU.out.grown g)
      replace RlV := Lib.hid (RlV.out.grown g)
      replace HG := Lib.hid (World.grownBy.trans HG.out g)
      clear g
      go_wp2_with fail
      go_ret
      exact ⟨rfl, HG.out⟩
    · skip
      have qc := Hc.out.1
      have qU := HU.out.1
      have qV := HV.out.1
      have qP := HP.out.1
      have qQ := HQ.out.1
      have qO := HO.out.1
      have qD := HD.out.1
      have qZ := HZ.out.1
      have x0 := HX.out.c0
      have x1 := HX.out.c1
      have x2 := HX.out.c2
      have x3 := HX.out.c3
      have x4 := HX.out.c4
      go_wp2_with fail
      clear qc qU qV qP qQ qO qD qZ x0 x1 x2 x3 x4
      refine (HED.out _ _ _ HD.out.2.2 HI.out.v).mono ?_
      rintro e V31 ⟨rfl, g⟩
      replace Hc := Lib.hid (Hc.out.grown g)
      replace HU := Lib.hid (HU.out.grown g)
      replace HV := Lib.hid (HV.out.grown g)
      replace HP := Lib.hid (HP.out.grown g)
      replace HQ := Lib.hid (HQ.out.grown g)
      replace HO := Lib.hid (HO.out.grown g)
      replace HD := Lib.hid (HD.out.grown g)
      replace HZ := Lib.hid (HZ.out.grown g)
      replace HX := Lib.hid (HX.out.grown g)
      replace HI := Lib.hid (HI.out.grown g)
      replace Rla := Lib.hid (Rla.out.grown g)
      replace Rlb := Lib.hid (Rlb.out.grown g)
      replace RlU := Lib.hid (RlU.out.grown g)
      replace RlV := Lib.hid (RlV.out.grown g)
      replace HG := Lib.hid (World.grownBy.trans HG.out g)
      clear g
      go_wp2_with fail
      go_ret
      exact ⟨rfl, HG.out⟩
end Go.Proofs.Ythagoihpppppkaa
