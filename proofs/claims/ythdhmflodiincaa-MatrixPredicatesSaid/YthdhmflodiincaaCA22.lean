/- Texts of the proof: RY RO. -/
import Derived.Test.YthdhmflodiincaaCA21
import Derived.Deep.DeepCutAuto
import Derived.Test.YthdhmflodiincaaCA11
namespace Go.Proofs.Ythdhmflodiincaa
open Go.RowKit Go.Maps

set_option maxRecDepth 100000 in
set_option maxHeartbeats 4000000 in
theorem head_calls (w : World) : Calls Try.prog 12 #[] w fun e w' => e = .returned (.bool true) ∧ w.grownBy w' none := by
  have HG := Lib.hid (grown_refl w none)
  go_enter Try.func12, Try.ntmps12
  go_wp2_with fail
  refine (rnew_calls _).mono ?_
  rintro e V1 ⟨y, rfl, ⟨a1, c1, rfl, hr1⟩, g⟩
  replace HG := Lib.hid (World.grownBy.trans HG.out g)
  clear g
  go_wp2_with fail
  refine (rinput_at 1 h_input good_new (by decide) hr1).mono ?_
  rintro e V2 ⟨a2, c2, rfl, hr, g⟩
  clear hr1
  replace HG := Lib.hid (World.grownBy.trans HG.out g)
  clear g
  go_upto_region 2 with fail
  have hb := CB.new hr
  have gw := World.grownBy_alloc V2 (.cells #[.slice a2 hC.length c2] 30) none
  obtain ⟨V3, hV3⟩ : ∃ z, World.alloc V2 (.cells #[.slice a2 hC.length c2] 30) = z := ⟨_, rfl⟩
  have hsV3 : V3.heap.size = V2.heap.size + 1 := by rw [← hV3]; simp
  rw [hV3] at gw hb ⊢
  clear hV3
  obtain ⟨bc, hbb⟩ : ∃ b, V2.heap.size = b := ⟨_, rfl⟩
  rw [hbb] at hb hsV3 ⊢
  clear hbb
  replace HG := Lib.hid (World.grownBy.trans HG.out gw)
  clear gw
  have Hc := Lib.hid hb
  clear hb
  clear hr hsV3
  have qc := Hc.out.1
  go_wp2_with fail
  clear qc
  have hb := ints_lit2 V3 0 2
  have gw := World.grownBy_alloc V3 (.cells #[.int .i64 0, .int .i64 2] 3) none
  obtain ⟨V4, hV4⟩ : ∃ z, World.alloc V3 (.cells #[.int .i64 0, .int .i64 2] 3) = z := ⟨_, rfl⟩
  have hsV4 : V4.heap.size = V3.heap.size + 1 := by rw [← hV4]; simp
  rw [hV4] at gw hb ⊢
  clear hV4
  obtain ⟨p1, hbb⟩ : ∃ b, V3.heap.size = b := ⟨_, rfl⟩
  rw [hbb] at hb hsV4 ⊢
  clear hbb
  replace Hc := Lib.hid (Hc.out.grown gw)
  replace HG := Lib.hid (World.grownBy.trans HG.out gw)
  clear gw
  have Hr1 := Lib.hid hb
  clear hb
  clear hsV4
  have hr1 := Hr1.out
  clear Hr1
  refine (const2_at 1 0 2 hr1).mono ?_
  rintro e V5 ⟨a3, c3, rfl, hm, g⟩
  clear hr1
  replace Hc := Lib.hid (Hc.out.grown g)
  replace HG := Lib.hid (World.grownBy.trans HG.out g)
  clear g
  have qc := Hc.out.1
  go_upto_region 3 with fail
  clear qc
  have hb := XB.new (n := 2) 1 (show CellsW V5 a3 c3 hA from hm) rfl
  have gw := World.grownBy_alloc V5 (.cells #[.int .i64 1, .slice a3 2 c3] 26) none
  obtain ⟨V6, hV6⟩ : ∃ z, World.alloc V5 (.cells #[.int .i64 1, .slice a3 2 c3] 26) = z := ⟨_, rfl⟩
  have hsV6 : V6.heap.size = V5.heap.size + 1 := by rw [← hV6]; simp
  rw [hV6] at gw hb ⊢
  clear hV6
  obtain ⟨ba, hbb⟩ : ∃ b, V5.heap.size = b := ⟨_, rfl⟩
  rw [hbb] at hb hsV6 ⊢
  clear hbb
  replace Hc := Lib.hid (Hc.out.grown gw)
  replace HG := Lib.hid (World.grownBy.trans HG.out gw)
  clear gw
  have Ha := Lib.hid hb
  clear hb
  clear hm hsV6
  have qc := Hc.out.1
  have qa := Ha.out.1
  have ra := Ha.out.2.1
  go_wp2_with fail
  clear qc qa ra
  have hn := rnot_at (w := V6) 2 (by decide)
  rw [show notR 2 = 3 from rfl] at hn
  refine (hn).mono ?_
  rintro e w9 ⟨rfl, hw9⟩
  rw [hw9]
  clear hw9 w9
  clear hn
  have qc := Hc.out.1
  have qa := Ha.out.1
  have ra := Ha.out.2.1
  go_upto_region 4 with fail
  clear qc qa ra
  have h1 := cells_lit2 V6 (0, 2) (1, 3)
  have gw := World.grownBy_alloc V6 (.cells #[.int .i64 0, .int .i64 2, .int .i64 1, .int .i64 3] 71) none
  obtain ⟨V7, hU⟩ : ∃ z, World.alloc V6 (.cells #[.int .i64 0, .int .i64 2, .int .i64 1, .int .i64 3] 71) = z := ⟨_, rfl⟩
  have hsU : V7.heap.size = V6.heap.size + 1 := by rw [← hU]; simp
  rw [hU] at gw h1 ⊢
  clear hU
  obtain ⟨p2, hbb⟩ : ∃ b, V6.heap.size = b := ⟨_, rfl⟩
  rw [hbb] at h1 hsU ⊢
  clear hbb
  replace Hc := Lib.hid (Hc.out.grown gw)
  replace Ha := Lib.hid (Ha.out.grown gw)
  replace HG := Lib.hid (World.grownBy.trans HG.out gw)
  clear gw
  have hb := XB.new (n := 2) 1 (show CellsW V7 (some ⟨p2, 0, none⟩) 2 hB from h1) rfl
  have gw := World.grownBy_alloc V7 (.cells #[.int .i64 1, .slice (some ⟨p2, 0, none⟩) 2 2] 26) none
  obtain ⟨V8, hU⟩ : ∃ z, World.alloc V7 (.cells #[.int .i64 1, .slice (some ⟨p2, 0, none⟩) 2 2] 26) = z := ⟨_, rfl⟩
  rw [hU] at gw hb ⊢
  clear hU
  rw [hsU] at hb
  clear hsU
  obtain ⟨bb, hbb⟩ : ∃ b, p2 + 1 = b := ⟨_, rfl⟩
  rw [hbb] at hb ⊢
  clear hbb
  replace Hc := Lib.hid (Hc.out.grown gw)
  replace Ha := Lib.hid (Ha.out.grown gw)
  replace HG := Lib.hid (World.grownBy.trans HG.out gw)
  clear gw
  clear h1
  have Hb := Lib.hid hb
  clear hb
  have qc := Hc.out.1
  have qa := Ha.out.1
  have ra := Ha.out.2.1
  have qb := Hb.out.1
  have rb := Hb.out.2.1
  go_wp2_with fail
  clear qc qa ra qb rb
  refine (h_union_at Hc.out.2.2 Ha.out.2.2.2 Hb.out.2.2.2).mono ?_
  rintro e V9 ⟨ad, cd, au, nu, cu, rfl, hn, hr, hm, g⟩
  obtain rfl : nu = 3 := hn.symm
  clear hn
  replace Hc := Lib.hid (Hc.out.grown g)
  replace Ha := Lib.hid (Ha.out.grown g)
  replace Hb := Lib.hid (Hb.out.grown g)
  replace HG := Lib.hid (World.grownBy.trans HG.out g)
  clear g
  have qc := Hc.out.1
  have qa := Ha.out.1
  have ra := Ha.out.2.1
  have qb := Hb.out.1
  have rb := Hb.out.2.1
  go_upto_region 5 with fail
  clear qc qa ra qb rb
  have h1 := CB.new hr
  have gw := World.grownBy_alloc V9 (.cells #[.slice ad hC.length cd] 30) none
  obtain ⟨V10, hU⟩ : ∃ z, World.alloc V9 (.cells #[.slice ad hC.length cd] 30) = z := ⟨_, rfl⟩
  have hsU : V10.heap.size = V9.heap.size + 1 := by rw [← hU]; simp
  rw [hU] at gw h1 ⊢
  clear hU
  obtain ⟨bd, hbb⟩ : ∃ b, V9.heap.size = b := ⟨_, rfl⟩
  rw [hbb] at h1 hsU ⊢
  clear hbb
  replace hm := hm.grown gw
  replace Hc := Lib.hid (Hc.out.grown gw)
  replace Ha := Lib.hid (Ha.out.grown gw)
  replace Hb := Lib.hid (Hb.out.grown gw)
  replace HG := Lib.hid (World.grownBy.trans HG.out gw)
  clear gw
  have hb := XB.new (n := 3) (m := [(0, 0), (1, 3), (2, 0)]) 1 hm rfl
  have gw := World.grownBy_alloc V10 (.cells #[.int .i64 1, .slice au 3 cu] 26) none
  obtain ⟨V11, hU⟩ : ∃ z, World.alloc V10 (.cells #[.int .i64 1, .slice au 3 cu] 26) = z := ⟨_, rfl⟩
  rw [hU] at gw hb ⊢
  clear hU
  rw [hsU] at hb
  clear hsU
  obtain ⟨bu, hbb⟩ : ∃ b, bd + 1 = b := ⟨_, rfl⟩
  rw [hbb] at hb ⊢
  clear hbb
  replace h1 := h1.grown gw
  replace Hc := Lib.hid (Hc.out.grown gw)
  replace Ha := Lib.hid (Ha.out.grown gw)
  replace Hb := Lib.hid (Hb.out.grown gw)
  replace HG := Lib.hid (World.grownBy.trans HG.out gw)
  clear gw
  have Hd := Lib.hid h1
  clear h1
  have Hu := Lib.hid hb
  clear hb
  clear hr hm
  have qc := Hc.out.1
  have qa := Ha.out.1
  have ra := Ha.out.2.1
  have qb := Hb.out.1
  have rb := Hb.out.2.1
  have qd := Hd.out.1
  have qu := Hu.out.1
  have ru := Hu.out.2.1
  go_wp2_with fail
  clear qc qa ra qb rb qd qu ru
  refine (h_inter_at Hc.out.2.2 Ha.out.2.2.2 Hb.out.2.2.2).mono ?_
  rintro e V12 ⟨ae, ce, ai, ni, ci, rfl, hn, hr, hm, g⟩
  obtain rfl : ni = 1 := hn.symm
  clear hn
  replace Hc := Lib.hid (Hc.out.grown g)
  replace Ha := Lib.hid (Ha.out.grown g)
  replace Hb := Lib.hid (Hb.out.grown g)
  replace Hd := Lib.hid (Hd.out.grown g)
  replace Hu := Lib.hid (Hu.out.grown g)
  replace HG := Lib.hid (World.grownBy.trans HG.out g)
  clear g
  have qc := Hc.out.1
  have qa := Ha.out.1
  have ra := Ha.out.2.1
  have qb := Hb.out.1
  have rb := Hb.out.2.1
  have qd := Hd.out.1
  have qu := Hu.out.1
  have ru := Hu.out.2.1
  go_upto_region 6 with fail
  clear qc qa ra qb rb qd qu ru
  have h1 := CB.new hr
  have gw := World.grownBy_alloc V12 (.cells #[.slice ae hC.length ce] 30) none
  obtain ⟨V13, hU⟩ : ∃ z, World.alloc V12 (.cells #[.slice ae hC.length ce] 30) = z := ⟨_, rfl⟩
  have hsU : V13.heap.size = V12.heap.size + 1 := by rw [← hU]; simp
  rw [hU] at gw h1 ⊢
  clear hU
  obtain ⟨be, hbb⟩ : ∃ b, V12.heap.size = b := ⟨_, rfl⟩
  rw [hbb] at h1 hsU ⊢
  clear hbb
  replace hm := hm.grown gw
  replace Hc := Lib.hid (Hc.out.grown gw)
  replace Ha := Lib.hid (Ha.out.grown gw)
  replace Hb := Lib.hid (Hb.out.grown gw)
  replace Hd := Lib.hid (Hd.out.grown gw)
  replace Hu := Lib.hid (Hu.out.grown gw)
  replace HG := Lib.hid (World.grownBy.trans HG.out gw)
  clear gw
  have hb := XB.new (n := 1) (m := [(0, 2)]) 1 hm rfl
  have gw := World.grownBy_alloc V13 (.cells #[.int .i64 1, .slice ai 1 ci] 26) none
  obtain ⟨V14, hU⟩ : ∃ z, World.alloc V13 (.cells #[.int .i64 1, .slice ai 1 ci] 26) = z := ⟨_, rfl⟩
  rw [hU] at gw hb ⊢
  clear hU
  rw [hsU] at hb
  clear hsU
  obtain ⟨bi, hbb⟩ : ∃ b, be + 1 = b := ⟨_, rfl⟩
  rw [hbb] at hb ⊢
  clear hbb
  replace h1 := h1.grown gw
  replace Hc := Lib.hid (Hc.out.grown gw)
  replace Ha := Lib.hid (Ha.out.grown gw)
  replace Hb := Lib.hid (Hb.out.grown gw)
  replace Hd := Lib.hid (Hd.out.grown gw)
  replace Hu := Lib.hid (Hu.out.grown gw)
  replace HG := Lib.hid (World.grownBy.trans HG.out gw)
  clear gw
  have He := Lib.hid h1
  clear h1
  have Hi := Lib.hid hb
  clear hb
  clear hr hm
  have qc := Hc.out.1
  have qa := Ha.out.1
  have ra := Ha.out.2.1
  have qb := Hb.out.1
  have rb := Hb.out.2.1
  have qd := Hd.out.1
  have qu := Hu.out.1
  have ru := Hu.out.2.1
  have qe := He.out.1
  have qi := Hi.out.1
  have ri := Hi.out.2.1
  go_wp2_with fail
  clear qc qa ra qb rb qd qu ru qe qi ri
  refine (h_loneB_at Hc.out.2.2 Hb.out.2.2.2).mono ?_
  rintro e V15 ⟨af, cf, rfl, hr, g⟩
  replace Hc := Lib.hid (Hc.out.grown g)
  replace Ha := Lib.hid (Ha.out.grown g)
  replace Hb := Lib.hid (Hb.out.grown g)
  replace Hd := Lib.hid (Hd.out.grown g)
  replace Hu := Lib.hid (Hu.out.grown g)
  replace He := Lib.hid (He.out.grown g)
  replace Hi := Lib.hid (Hi.out.grown g)
  replace HG := Lib.hid (World.grownBy.trans HG.out g)
  clear g
  have qc := Hc.out.1
  have qa := Ha.out.1
  have ra := Ha.out.2.1
  have qb := Hb.out.1
  have rb := Hb.out.2.1
  have qd := Hd.out.1
  have qu := Hu.out.1
  have ru := Hu.out.2.1
  have qe := He.out.1
  have qi := Hi.out.1
  have ri := Hi.out.2.1
  go_upto_region 7 with fail
  clear qc qa ra qb rb qd qu ru qe qi ri
  have hb := CB.new hr
  have gw := World.grownBy_alloc V15 (.cells #[.slice af hC.length cf] 30) none
  obtain ⟨V16, hV16⟩ : ∃ z, World.alloc V15 (.cells #[.slice af hC.length cf] 30) = z := ⟨_, rfl⟩
  have hsV16 : V16.heap.size = V15.heap.size + 1 := by rw [← hV16]; simp
  rw [hV16] at gw hb ⊢
  clear hV16
  obtain ⟨bf, hbb⟩ : ∃ b, V15.heap.size = b := ⟨_, rfl⟩
  rw [hbb] at hb hsV16 ⊢
  clear hbb
  replace Hc := Lib.hid (Hc.out.grown gw)
  replace Ha := Lib.hid (Ha.out.grown gw)
  replace Hb := Lib.hid (Hb.out.grown gw)
  replace Hd := Lib.hid (Hd.out.grown gw)
  replace Hu := Lib.hid (Hu.out.grown gw)
  replace He := Lib.hid (He.out.grown gw)
  replace Hi := Lib.hid (Hi.out.grown gw)
  replace HG := Lib.hid (World.grownBy.trans HG.out gw)
  clear gw
  have Hf := Lib.hid hb
  clear hb
  clear hr hsV16
  have qc := Hc.out.1
  have qa := Ha.out.1
  have ra := Ha.out.2.1
  have qb := Hb.out.1
  have rb := Hb.out.2.1
  have qd := Hd.out.1
  have qu := Hu.out.1
  have ru := Hu.out.2.1
  have qe := He.out.1
  have qi := Hi.out.1
  have ri := Hi.out.2.1
  have qf := Hf.out.1
  go_wp2_with fail
  clear qc qa ra qb rb qd qu ru qe qi ri qf
  refine (h_loneA_at Hc.out.2.2 Ha.out.2.2.2).mono ?_
  rintro e V17 ⟨ag, cg, rfl, hr, g⟩
  replace Hc := Lib.hid (Hc.out.grown g)
  replace Ha := Lib.hid (Ha.out.grown g)
  replace Hb := Lib.hid (Hb.out.grown g)
  replace Hd := Lib.hid (Hd.out.grown g)
  replace Hu := Lib.hid (Hu.out.grown g)
  replace He := Lib.hid (He.out.grown g)
  replace Hi := Lib.hid (Hi.out.grown g)
  replace Hf := Lib.hid (Hf.out.grown g)
  replace HG := Lib.hid (World.grownBy.trans HG.out g)
  clear g
  have qc := Hc.out.1
  have qa := Ha.out.1
  have ra := Ha.out.2.1
  have qb := Hb.out.1
  have rb := Hb.out.2.1
  have qd := Hd.out.1
  have qu := Hu.out.1
  have ru := Hu.out.2.1
  have qe := He.out.1
  have qi := Hi.out.1
  have ri := Hi.out.2.1
  have qf := Hf.out.1
  go_upto_region 8 with fail
  clear qc qa ra qb rb qd qu ru qe qi ri qf
  have hb := CB.new hr
  have gw := World.grownBy_alloc V17 (.cells #[.slice ag hC.length cg] 30) none
  obtain ⟨V18, hV18⟩ : ∃ z, World.alloc V17 (.cells #[.slice ag hC.length cg] 30) = z := ⟨_, rfl⟩
  have hsV18 : V18.heap.size = V17.heap.size + 1 := by rw [← hV18]; simp
  rw [hV18] at gw hb ⊢
  clear hV18
  obtain ⟨bg, hbb⟩ : ∃ b, V17.heap.size = b := ⟨_, rfl⟩
  rw [hbb] at hb hsV18 ⊢
  clear hbb
  replace Hc := Lib.hid (Hc.out.grown gw)
  replace Ha := Lib.hid (Ha.out.grown gw)
  replace Hb := Lib.hid (Hb.out.grown gw)
  replace Hd := Lib.hid (Hd.out.grown gw)
  replace Hu := Lib.hid (Hu.out.grown gw)
  replace He := Lib.hid (He.out.grown gw)
  replace Hi := Lib.hid (Hi.out.grown gw)
  replace Hf := Lib.hid (Hf.out.grown gw)
  replace HG := Lib.hid (World.grownBy.trans HG.out gw)
  clear gw
  have Hg := Lib.hid hb
  clear hb
  clear hr hsV18
  have HBC := Lib.hid (show CB V18 bc _ _ hC from Hc.out)
  refine hd8_all (fun c a d v w h => by cases d <;> exact h) HBC (Lib.hid ?_)
  intro ah ch aj cj bh bj _ _ _ _ _ _ _ _ _ _ _ _ _ _ _ _ _ _ _ _ _ _ _ _ _ _ _ _ _ _ _ _ _ _ _ _ _ _ _ _ _ _ _ _ _ _ _ _ _ _ _ _ _ _ _ _ _ _ _ _ _ _ _ _ _ _ _ _ _ _ _ _ _ _ _ _ _ _ _ _ _ _ _ _ _ _ _ _ _ _ _ _ _ _ _ _ _ _ _ _ _ _ _ _ _ _ _ _ _ _ _ _ _ _ _ _ _ _ _ _ _ _ _ _ _ _ _ _ _ _ _ _ _ _ _ _ _ _ _ _ _ _ _ _ _ _ _ _ _ _ _ _ _ _ _ _ _ _ _ _ _ _ V19 g _ _ hcb hxb
  replace Hc := Lib.hid (Hc.out.grown g)
  replace Ha := Lib.hid (Ha.out.grown g)
  replace Hb := Lib.hid (Hb.out.grown g)
  replace Hd := Lib.hid (Hd.out.grown g)
  replace Hu := Lib.hid (Hu.out.grown g)
  replace He := Lib.hid (He.out.grown g)
  replace Hi := Lib.hid (Hi.out.grown g)
  replace Hf := Lib.hid (Hf.out.grown g)
  replace Hg := Lib.hid (Hg.out.grown g)
  replace HG := Lib.hid (World.grownBy.trans HG.out g)
  clear g
  have Hh := Lib.hid hcb
  have Hj := Lib.hid hxb
  clear hcb hxb
  have qc := Hc.out.1
  have qa := Ha.out.1
  have ra := Ha.out.2.1
  have qb := Hb.out.1
  have rb := Hb.out.2.1
  have qd := Hd.out.1
  have qu := Hu.out.1
  have ru := Hu.out.2.1
  have qe := He.out.1
  have qi := Hi.out.1
  have ri := Hi.out.2.1
  have qf := Hf.out.1
  have qg := Hg.out.1
  have qh := Hh.out.1
  have qj := Hj.out.1
  have rj := Hj.out.2.1
  go_upto_region 9 with fail
  clear qc qa ra qb rb qd qu ru qe qi ri qf qg qh qj rj
  have qc := Hc.out.1
  have qa := Ha.out.1
  have ra := Ha.out.2.1
  have qb := Hb.out.1
  have rb := Hb.out.2.1
  have qd := Hd.out.1
  have qu := Hu.out.1
  have ru := Hu.out.2.1
  have qe := He.out.1
  have qi := Hi.out.1
  have ri := Hi.out.2.1
  have qf := Hf.out.1
  have qg := Hg.out.1
  have qh := Hh.out.1
  have qj := Hj.out.1
  have rj := Hj.out.2.1
  go_wp2_with fail
  clear qc qa ra qb rb qd qu ru qe qi ri qf qg qh qj rj
  refine (h_in_at Hc.out.2.2 Hi.out.2.2.2 Ha.out.2.2.2).mono ?_
  rintro e V20 ⟨ao, co, rfl, hr, g⟩
  replace Hc := Lib.hid (Hc.out.grown g)
  replace Ha := Lib.hid (Ha.out.grown g)
  replace Hb := Lib.hid (Hb.out.grown g)
  replace Hd := Lib.hid (Hd.out.grown g)
  replace Hu := Lib.hid (Hu.out.grown g)
  replace He := Lib.hid (He.out.grown g)
  replace Hi := Lib.hid (Hi.out.grown g)
  replace Hf := Lib.hid (Hf.out.grown g)
  replace Hg := Lib.hid (Hg.out.grown g)
  replace Hh := Lib.hid (Hh.out.grown g)
  replace Hj := Lib.hid (Hj.out.grown g)
  replace HG := Lib.hid (World.grownBy.trans HG.out g)
  clear g
  have qc := Hc.out.1
  have qa := Ha.out.1
  have ra := Ha.out.2.1
  have qb := Hb.out.1
  have rb := Hb.out.2.1
  have qd := Hd.out.1
  have qu := Hu.out.1
  have ru := Hu.out.2.1
  have qe := He.out.1
  have qi := Hi.out.1
  have ri := Hi.out.2.1
  have qf := Hf.out.1
  have qg := Hg.out.1
  have qh := Hh.out.1
  have qj := Hj.out.1
  have rj := Hj.out.2.1
  go_upto_region 10 with fail
  clear qc qa ra qb rb qd qu ru qe qi ri qf qg qh qj rj
  have hb := CB.new hr
  have gw := World.grownBy_alloc V20 (.cells #[.slice ao hC.length co] 30) none
  obtain ⟨V21, hV21⟩ : ∃ z, World.alloc V20 (.cells #[.slice ao hC.length co] 30) = z := ⟨_, rfl⟩
  have hsV21 : V21.heap.size = V20.heap.size + 1 := by rw [← hV21]; simp
  rw [hV21] at gw hb ⊢
  clear hV21
  obtain ⟨bo, hbb⟩ : ∃ b, V20.heap.size = b := ⟨_, rfl⟩
  rw [hbb] at hb hsV21 ⊢
  clear hbb
  replace Hc := Lib.hid (Hc.out.grown gw)
  replace Ha := Lib.hid (Ha.out.grown gw)
  replace Hb := Lib.hid (Hb.out.grown gw)
  replace Hd := Lib.hid (Hd.out.grown gw)
  replace Hu := Lib.hid (Hu.out.grown gw)
  replace He := Lib.hid (He.out.grown gw)
  replace Hi := Lib.hid (Hi.out.grown gw)
  replace Hf := Lib.hid (Hf.out.grown gw)
  replace Hg := Lib.hid (Hg.out.grown gw)
  replace Hh := Lib.hid (Hh.out.grown gw)
  replace Hj := Lib.hid (Hj.out.grown gw)
  replace HG := Lib.hid (World.grownBy.trans HG.out gw)
  clear gw
  have Ho := Lib.hid hb
  clear hb
  clear hr hsV21
  have qc := Hc.out.1
  have qa := Ha.out.1
  have ra := Ha.out.2.1
  have qb := Hb.out.1
  have rb := Hb.out.2.1
  have qd := Hd.out.1
  have qu := Hu.out.1
  have ru := Hu.out.2.1
  have qe := He.out.1
  have qi := Hi.out.1
  have ri := Hi.out.2.1
  have qf := Hf.out.1
  have qg := Hg.out.1
  have qh := Hh.out.1
  have qj := Hj.out.1
  have rj := Hj.out.2.1
  have qo := Ho.out.1
  go_wp2_with fail
  clear qc qa ra qb rb qd qu ru qe qi ri qf qg qh qj rj qo
  refine (h_some_at Hc.out.2.2 Hb.out.2.2.2).mono ?_
  rintro e V22 ⟨az, cz, rfl, hr, g⟩
  replace Hc := Lib.hid (Hc.out.grown g)
  replace Ha := Lib.hid (Ha.out.grown g)
  replace Hb := Lib.hid (Hb.out.grown g)
  replace Hd := Lib.hid (Hd.out.grown g)
  replace Hu := Lib.hid (Hu.out.grown g)
  replace He := Lib.hid (He.out.grown g)
  replace Hi := Lib.hid (Hi.out.grown g)
  replace Hf := Lib.hid (Hf.out.grown g)
  replace Hg := Lib.hid (Hg.out.grown g)
  replace Hh := Lib.hid (Hh.out.grown g)
  replace Hj := Lib.hid (Hj.out.grown g)
  replace Ho := Lib.hid (Ho.out.grown g)
  replace HG := Lib.hid (World.grownBy.trans HG.out g)
  clear g
  have qc := Hc.out.1
  have qa := Ha.out.1
  have ra := Ha.out.2.1
  have qb := Hb.out.1
  have rb := Hb.out.2.1
  have qd := Hd.out.1
  have qu := Hu.out.1
  have ru := Hu.out.2.1
  have qe := He.out.1
  have qi := Hi.out.1
  have ri := Hi.out.2.1
  have qf := Hf.out.1
  have qg := Hg.out.1
  have qh := Hh.out.1
  have qj := Hj.out.1
  have rj := Hj.out.2.1
  have qo := Ho.out.1
  go_upto_region 11 with fail
  clear qc qa ra qb rb qd qu ru qe qi ri qf qg qh qj rj qo
  have hb := CB.new hr
  have gw := World.grownBy_alloc V22 (.cells #[.slice az hC.length cz] 30) none
  obtain ⟨V23, hV23⟩ : ∃ z, World.alloc V22 (.cells #[.slice az hC.length cz] 30) = z := ⟨_, rfl⟩
  have hsV23 : V23.heap.size = V22.heap.size + 1 := by rw [← hV23]; simp
  rw [hV23] at gw hb ⊢
  clear hV23
  obtain ⟨bz, hbb⟩ : ∃ b, V22.heap.size = b := ⟨_, rfl⟩
  rw [hbb] at hb hsV23 ⊢
  clear hbb
  replace Hc := Lib.hid (Hc.out.grown gw)
  replace Ha := Lib.hid (Ha.out.grown gw)
  replace Hb := Lib.hid (Hb.out.grown gw)
  replace Hd := Lib.hid (Hd.out.grown gw)
  replace Hu := Lib.hid (Hu.out.grown gw)
  replace He := Lib.hid (He.out.grown gw)
  replace Hi := Lib.hid (Hi.out.grown gw)
  replace Hf := Lib.hid (Hf.out.grown gw)
  replace Hg := Lib.hid (Hg.out.grown gw)
  replace Hh := Lib.hid (Hh.out.grown gw)
  replace Hj := Lib.hid (Hj.out.grown gw)
  replace Ho := Lib.hid (Ho.out.grown gw)
  replace HG := Lib.hid (World.grownBy.trans HG.out gw)
  clear gw
  have Hz := Lib.hid hb
  clear hb
  clear hr hsV23
  have qc := Hc.out.1
  have qa := Ha.out.1
  have ra := Ha.out.2.1
  have qb := Hb.out.1
  have rb := Hb.out.2.1
  have qd := Hd.out.1
  have qu := Hu.out.1
  have ru := Hu.out.2.1
  have qe := He.out.1
  have qi := Hi.out.1
  have ri := Hi.out.2.1
  have qf := Hf.out.1
  have qg := Hg.out.1
  have qh := Hh.out.1
  have qj := Hj.out.1
  have rj := Hj.out.2.1
  have qo := Ho.out.1
  have qz := Hz.out.1
  go_wp2_with fail
  clear qc qa ra qb rb qd qu ru qe qi ri qf qg qh qj rj qo qz
  have hb := bools_lit1 V23 false
  have g := World.grownBy_alloc V23 (.cells #[.bool false] 4) none
  obtain ⟨V24, hU⟩ : ∃ z, World.alloc V23 (.cells #[.bool false] 4) = z := ⟨_, rfl⟩
  rw [hU] at g hb ⊢
  clear hU
  obtain ⟨p3, hbb⟩ : ∃ b, V23.heap.size = b := ⟨_, rfl⟩
  rw [hbb] at hb ⊢
  clear hbb
  replace Hc := Lib.hid (Hc.out.grown g)
  replace Ha := Lib.hid (Ha.out.grown g)
  replace Hb := Lib.hid (Hb.out.grown g)
  replace Hd := Lib.hid (Hd.out.grown g)
  replace Hu := Lib.hid (Hu.out.grown g)
  replace He := Lib.hid (He.out.grown g)
  replace Hi := Lib.hid (Hi.out.grown g)
  replace Hf := Lib.hid (Hf.out.grown g)
  replace Hg := Lib.hid (Hg.out.grown g)
  replace Hh := Lib.hid (Hh.out.grown g)
  replace Hj := Lib.hid (Hj.out.grown g)
  replace Ho := Lib.hid (Ho.out.grown g)
  replace Hz := Lib.hid (Hz.out.grown g)
  replace HG := Lib.hid (World.grownBy.trans HG.out g)
  clear g
  refine (h_value_at Hd.out.2.2 Hu.out.2.2.2 hb).mono ?_
  rintro e V25 ⟨ay, cy, rfl, hr, g⟩
  clear hb
  replace Hc := Lib.hid (Hc.out.grown g)
  replace Ha := Lib.hid (Ha.out.grown g)
  replace Hb := Lib.hid (Hb.out.grown g)
  replace Hd := Lib.hid (Hd.out.grown g)
  replace Hu := Lib.hid (Hu.out.grown g)
  replace He := Lib.hid (He.out.grown g)
  replace Hi := Lib.hid (Hi.out.grown g)
  replace Hf := Lib.hid (Hf.out.grown g)
  replace Hg := Lib.hid (Hg.out.grown g)
  replace Hh := Lib.hid (Hh.out.grown g)
  replace Hj := Lib.hid (Hj.out.grown g)
  replace Ho := Lib.hid (Ho.out.grown g)
  replace Hz := Lib.hid (Hz.out.grown g)
  replace HG := Lib.hid (World.grownBy.trans HG.out g)
  clear g
  have qc := Hc.out.1
  have qa := Ha.out.1
  have ra := Ha.out.2.1
  have qb := Hb.out.1
  have rb := Hb.out.2.1
  have qd := Hd.out.1
  have qu := Hu.out.1
  have ru := Hu.out.2.1
  have qe := He.out.1
  have qi := Hi.out.1
  have ri := Hi.out.2.1
  have qf := Hf.out.1
  have qg := Hg.out.1
  have qh := Hh.out.1
  have qj := Hj.out.1
  have rj := Hj.out.2.1
  have qo := Ho.out.1
  have qz := Hz.out.1
  go_upto_region 12 with fail
  clear qc qa ra qb rb qd qu ru qe qi ri qf qg qh qj rj qo qz
  have hb := YB.new (n := 3) 1 hr rfl
  have gw := World.grownBy_alloc V25 (.cells #[.int .i64 1, .slice ay 3 cy] 47) none
  obtain ⟨V26, hV26⟩ : ∃ z, World.alloc V25 (.cells #[.int .i64 1, .slice ay 3 cy] 47) = z := ⟨_, rfl⟩
  have hsV26 : V26.heap.size = V25.heap.size + 1 := by rw [← hV26]; simp
  rw [hV26] at gw hb ⊢
  clear hV26
  obtain ⟨by1, hbb⟩ : ∃ b, V25.heap.size = b := ⟨_, rfl⟩
  rw [hbb] at hb hsV26 ⊢
  clear hbb
  replace Hc := Lib.hid (Hc.out.grown gw)
  replace Ha := Lib.hid (Ha.out.grown gw)
  replace Hb := Lib.hid (Hb.out.grown gw)
  replace Hd := Lib.hid (Hd.out.grown gw)
  replace Hu := Lib.hid (Hu.out.grown gw)
  replace He := Lib.hid (He.out.grown gw)
  replace Hi := Lib.hid (Hi.out.grown gw)
  replace Hf := Lib.hid (Hf.out.grown gw)
  replace Hg := Lib.hid (Hg.out.grown gw)
  replace Hh := Lib.hid (Hh.out.grown gw)
  replace Hj := Lib.hid (Hj.out.grown gw)
  replace Ho := Lib.hid (Ho.out.grown gw)
  replace Hz := Lib.hid (Hz.out.grown gw)
  replace HG := Lib.hid (World.grownBy.trans HG.out gw)
  clear gw
  have Hy := Lib.hid hb
  clear hb
  clear hr hsV26
  refine hd12_all (fun c a d v w h => by cases d <;> exact h) Hc Hd He Hf Hg Hh Hb Hu Hi Hj Hy ?_
  intro _ _ _ _ _ _ _ _ _ _ _ _ _ _ _ _ _ _ _ _ _ _ _ _ _ _ _ _ _ _ _ _ _ _ _ _ _ _ _ _ _ _ _ _ _ _ _ _ _ _ _ _ _ _ _ _ _ _ _ _ _ _ _ _ _ _ _ _ _ _ _ _ _ _ _ _ _ _ _ _ _ _ _ _ _ _ _ _ _ _ _ _ _ _ _ _ _ _ _ _ _ _ _ _ _ _ _ _ _ _ _ _ _ _ _ _ _ _ _ _ _ _ _ _ _ _ _ _ _ _ _ _ _ _ _ _ _ _ _ _ _ _ _ _ _ _ _ _ _ _ _ _ _ _ _ _ _ _ _ _ _ _ _ _ _ _ _ _ _ _ _ _ _ _ _ W hEND
  go_wp2_with fail
  go_ret
  exact ⟨rfl, World.grownBy.trans HG.out hEND⟩
end Go.Proofs.Ythdhmflodiincaa

namespace Go.Proofs.Ythdhmflodiincaa
open Go.RowKit Go.Maps

set_option maxRecDepth 100000 in
set_option maxHeartbeats 4000000 in
theorem atoms_calls (s : Nat) (hs : s < 256) (w : World) :
    Calls Try.prog 14 #[.int .u8 (s : Int)] w fun e w' => e = .returned (.tuple #[.int .i64 ((s % 3 + 1 : Nat) : Int), .int .i64 ((s / 3 % 2 + 1 : Nat) : Int), .int .i64 ((s / 6 % 2 + 1 : Nat) : Int)]) ∧ w' = w := by
  obtain ⟨r3, h3⟩ : ∃ z, s % 3 = z := ⟨_, rfl⟩
  obtain ⟨q3, hq3⟩ : ∃ z, s / 3 = z := ⟨_, rfl⟩
  obtain ⟨q6, hq6⟩ : ∃ z, s / 6 = z := ⟨_, rfl⟩
  rw [h3, hq3, hq6]
  obtain ⟨r, hr⟩ : ∃ z, q3 % 2 = z := ⟨_, rfl⟩
  obtain ⟨t, ht⟩ : ∃ z, q6 % 2 = z := ⟨_, rfl⟩
  rw [hr, ht]
  have e1 : (s : Int).tmod 3 = (r3 : Int) := by rw [Int.tmod_eq_emod_of_nonneg (by omega)]; omega
  have e2 : (s : Int) / 3 = (q3 : Int) := by omega
  have e3 : (s : Int) / 6 = (q6 : Int) := by omega
  have e4 : (q3 : Int).tmod 2 = (r : Int) := by rw [Int.tmod_eq_emod_of_nonneg (by omega)]; omega
  have e5 : (q6 : Int).tmod 2 = (t : Int) := by rw [Int.tmod_eq_emod_of_nonneg (by omega)]; omega
  have b1 : r3 < 3 := by omega
  have b2 : r < 2 := by omega
  have b3 : t < 2 := by omega
  have k1 : IntKind.i64.wrap ((r3 : Int) + 1) = ((r3 + 1 : Nat) : Int) := by rw [IntWalk.i64_in _ (by omega)]; omega
  have k2 : IntKind.i64.wrap ((r : Int) + 1) = ((r + 1 : Nat) : Int) := by rw [IntWalk.i64_in _ (by omega)]; omega
  have k3 : IntKind.i64.wrap ((t : Int) + 1) = ((t + 1 : Nat) : Int) := by rw [IntWalk.i64_in _ (by omega)]; omega
  have b4 : q3 < 256 := by omega
  have b5 : q6 < 256 := by omega
  clear h3 hq3 hq6 hr ht
  go_enter Try.func14, Try.ntmps14
  go_wp2_with fail
  refine bodyPost_ret (v := .tuple #[.int .i64 ((r3 + 1 : Nat) : Int), .int .i64 ((r + 1 : Nat) : Int), .int .i64 ((t + 1 : Nat) : Int)]) ?_ rfl ⟨rfl, rfl⟩
  simp [results, Try.results14, go_sem]
end Go.Proofs.Ythdhmflodiincaa
