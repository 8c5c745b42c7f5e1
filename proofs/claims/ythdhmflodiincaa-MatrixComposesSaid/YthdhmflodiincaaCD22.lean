/- Texts of the proof: RY. -/
import Derived.Test.YthdhmflodiincaaCD21
import Derived.Deep.DeepCutAuto
set_option maxRecDepth 100000
set_option maxHeartbeats 8000000
namespace Go.Proofs.Ythdhmflodiincaa
open Lib (hid)
open Go.RowKit Go.Maps

theorem head_calls (w : World) : Calls Try.prog 12 #[] w fun e w' => e = .returned (.bool true) ∧ w.grownBy w' none := by
 have HG := hid (grown_refl w none)
 go_enter Try.func12, Try.ntmps12
 go_wp2_with fail
 refine (rnew_calls _).mono ?_
 rintro e V1 ⟨y, rfl, ⟨a1, c1, rfl, hr1⟩, g⟩
 replace HG := hid (gT HG.out g)
 clear g
 go_wp2_with fail
 refine (rinput_at 1 h_input good_new (by decide) hr1).mono ?_
 rintro e V2 ⟨a2, c2, rfl, hr, g⟩
 clear hr1
 replace HG := hid (gT HG.out g)
 clear g
 go_upto_region 2 with fail
 have hb := CB.new hr
 have gw := gAl V2 (.cells #[.slice a2 hC.length c2] 30) none
 obtain ⟨V3, hV3⟩ : ∃ z, World.alloc V2 (.cells #[.slice a2 hC.length c2] 30) = z := ⟨_, rfl⟩
 have hsV3 : V3.heap.size = V2.heap.size + 1 := by rw [← hV3]; simp
 rw [hV3] at gw hb ⊢
 clear hV3
 obtain ⟨bc, hbb⟩ : ∃ b, V2.heap.size = b := ⟨_, rfl⟩
 rw [hbb] at hb hsV3 ⊢
 clear hbb
 replace HG := hid (gT HG.out gw)
 clear gw
 have Hc := hid hb
 clear hb
 clear hr hsV3
 have qc := Hc.out.1
 go_wp2_with fail
 clear qc
 have hb := ints_lit2 V3 0 2
 have gw := gAl V3 (.cells #[.int .i64 0, .int .i64 2] 3) none
 obtain ⟨V4, hV4⟩ : ∃ z, World.alloc V3 (.cells #[.int .i64 0, .int .i64 2] 3) = z := ⟨_, rfl⟩
 have hsV4 : V4.heap.size = V3.heap.size + 1 := by rw [← hV4]; simp
 rw [hV4] at gw hb ⊢
 clear hV4
 obtain ⟨p1, hbb⟩ : ∃ b, V3.heap.size = b := ⟨_, rfl⟩
 rw [hbb] at hb hsV4 ⊢
 clear hbb
 replace Hc := hid (Hc.out.grown gw)
 replace HG := hid (gT HG.out gw)
 clear gw
 have Hr1 := hid hb
 clear hb
 clear hsV4
 have hr1 := Hr1.out
 clear Hr1
 refine (const2_at 1 0 2 hr1).mono ?_
 rintro e V5 ⟨a3, c3, rfl, hm, g⟩
 clear hr1
 replace Hc := hid (Hc.out.grown g)
 replace HG := hid (gT HG.out g)
 clear g
 have qc := Hc.out.1
 go_upto_region 3 with fail
 clear qc
 have hb := XB.new (n := 2) 1 (show CellsW V5 a3 c3 hA from hm) rfl
 have gw := gAl V5 (.cells #[.int .i64 1, .slice a3 2 c3] 26) none
 obtain ⟨V6, hV6⟩ : ∃ z, World.alloc V5 (.cells #[.int .i64 1, .slice a3 2 c3] 26) = z := ⟨_, rfl⟩
 have hsV6 : V6.heap.size = V5.heap.size + 1 := by rw [← hV6]; simp
 rw [hV6] at gw hb ⊢
 clear hV6
 obtain ⟨ba, hbb⟩ : ∃ b, V5.heap.size = b := ⟨_, rfl⟩
 rw [hbb] at hb hsV6 ⊢
 clear hbb
 replace Hc := hid (Hc.out.grown gw)
 replace HG := hid (gT HG.out gw)
 clear gw
 have Ha := hid hb
 clear hb
 clear hm hsV6
 have qc := Hc.out.1
 have qa := Ha.out.1
 have ra := Ha.out.2.1
 go_wp2_with fail
 clear qc qa ra
 have hn := rnot_at (w := V6) 2 (by decide)
 rw [show notR 2 = 3 from rfl] at hn
 refine (hn).mono ?_
 rintro e w9 ⟨rfl, hw9⟩
 rw [hw9]
 clear hw9 w9
 clear hn
 have qc := Hc.out.1
 have qa := Ha.out.1
 have ra := Ha.out.2.1
 go_upto_region 4 with fail
 clear qc qa ra
 have h1 := cells_lit2 V6 (0, 2) (1, 3)
 have gw := gAl V6 (.cells #[.int .i64 0, .int .i64 2, .int .i64 1, .int .i64 3] 71) none
 obtain ⟨V7, hU⟩ : ∃ z, World.alloc V6 (.cells #[.int .i64 0, .int .i64 2, .int .i64 1, .int .i64 3] 71) = z := ⟨_, rfl⟩
 have hsU : V7.heap.size = V6.heap.size + 1 := by rw [← hU]; simp
 rw [hU] at gw h1 ⊢
 clear hU
 obtain ⟨p2, hbb⟩ : ∃ b, V6.heap.size = b := ⟨_, rfl⟩
 rw [hbb] at h1 hsU ⊢
 clear hbb
 replace Hc := hid (Hc.out.grown gw)
 replace Ha := hid (Ha.out.grown gw)
 replace HG := hid (gT HG.out gw)
 clear gw
 have hb := XB.new (n := 2) 1 (show CellsW V7 (some ⟨p2, 0, none⟩) 2 hB from h1) rfl
 have gw := gAl V7 (.cells #[.int .i64 1, .slice (some ⟨p2, 0, none⟩) 2 2] 26) none
 obtain ⟨V8, hU⟩ : ∃ z, World.alloc V7 (.cells #[.int .i64 1, .slice (some ⟨p2, 0, none⟩) 2 2] 26) = z := ⟨_, rfl⟩
 rw [hU] at gw hb ⊢
 clear hU
 rw [hsU] at hb
 clear hsU
 obtain ⟨bb, hbb⟩ : ∃ b, p2 + 1 = b := ⟨_, rfl⟩
 rw [hbb] at hb ⊢
 clear hbb
 replace Hc := hid (Hc.out.grown gw)
 replace Ha := hid (Ha.out.grown gw)
 replace HG := hid (gT HG.out gw)
 clear gw
 clear h1
 have Hb := hid hb
 clear hb
 have qc := Hc.out.1
 have qa := Ha.out.1
 have ra := Ha.out.2.1
 have qb := Hb.out.1
 have rb := Hb.out.2.1
 go_wp2_with fail
 clear qc qa ra qb rb
 refine (h_union_at Hc.out.2.2 Ha.out.2.2.2 Hb.out.2.2.2).mono ?_
 rintro e V9 ⟨ad, cd, au, nu, cu, rfl, hn, hr, hm, g⟩
 obtain rfl : nu = 3 := hn.symm
 clear hn
 replace Hc := hid (Hc.out.grown g)
 replace Ha := hid (Ha.out.grown g)
 replace Hb := hid (Hb.out.grown g)
 replace HG := hid (gT HG.out g)
 clear g
 have qc := Hc.out.1
 have qa := Ha.out.1
 have ra := Ha.out.2.1
 have qb := Hb.out.1
 have rb := Hb.out.2.1
 go_upto_region 5 with fail
 clear qc qa ra qb rb
 have h1 := CB.new hr
 have gw := gAl V9 (.cells #[.slice ad hC.length cd] 30) none
 obtain ⟨V10, hU⟩ : ∃ z, World.alloc V9 (.cells #[.slice ad hC.length cd] 30) = z := ⟨_, rfl⟩
 have hsU : V10.heap.size = V9.heap.size + 1 := by rw [← hU]; simp
 rw [hU] at gw h1 ⊢
 clear hU
 obtain ⟨bd, hbb⟩ : ∃ b, V9.heap.size = b := ⟨_, rfl⟩
 rw [hbb] at h1 hsU ⊢
 clear hbb
 replace hm := hm.grown gw
 replace Hc := hid (Hc.out.grown gw)
 replace Ha := hid (Ha.out.grown gw)
 replace Hb := hid (Hb.out.grown gw)
 replace HG := hid (gT HG.out gw)
 clear gw
 have hb := XB.new (n := 3) (m := [(0, 0), (1, 3), (2, 0)]) 1 hm rfl
 have gw := gAl V10 (.cells #[.int .i64 1, .slice au 3 cu] 26) none
 obtain ⟨V11, hU⟩ : ∃ z, World.alloc V10 (.cells #[.int .i64 1, .slice au 3 cu] 26) = z := ⟨_, rfl⟩
 rw [hU] at gw hb ⊢
 clear hU
 rw [hsU] at hb
 clear hsU
 obtain ⟨bu, hbb⟩ : ∃ b, bd + 1 = b := ⟨_, rfl⟩
 rw [hbb] at hb ⊢
 clear hbb
 replace h1 := h1.grown gw
 replace Hc := hid (Hc.out.grown gw)
 replace Ha := hid (Ha.out.grown gw)
 replace Hb := hid (Hb.out.grown gw)
 replace HG := hid (gT HG.out gw)
 clear gw
 have Hd := hid h1
 clear h1
 have Hu := hid hb
 clear hb
 clear hr hm
 have qc := Hc.out.1
 have qa := Ha.out.1
 have ra := Ha.out.2.1
 have qb := Hb.out.1
 have rb := Hb.out.2.1
 have qd := Hd.out.1
 have qu := Hu.out.1
 have ru := Hu.out.2.1
 go_wp2_with fail
 clear qc qa ra qb rb qd qu ru
 refine (h_inter_at Hc.out.2.2 Ha.out.2.2.2 Hb.out.2.2.2).mono ?_
 rintro e V12 ⟨ae, ce, ai, ni, ci, rfl, hn, hr, hm, g⟩
 obtain rfl : ni = 1 := hn.symm
 clear hn
 replace Hc := hid (Hc.out.grown g)
 replace Ha := hid (Ha.out.grown g)
 replace Hb := hid (Hb.out.grown g)
 replace Hd := hid (Hd.out.grown g)
 replace Hu := hid (Hu.out.grown g)
 replace HG := hid (gT HG.out g)
 clear g
 have qc := Hc.out.1
 have qa := Ha.out.1
 have ra := Ha.out.2.1
 have qb := Hb.out.1
 have rb := Hb.out.2.1
 have qd := Hd.out.1
 have qu := Hu.out.1
 have ru := Hu.out.2.1
 go_upto_region 6 with fail
 clear qc qa ra qb rb qd qu ru
 have h1 := CB.new hr
 have gw := gAl V12 (.cells #[.slice ae hC.length ce] 30) none
 obtain ⟨V13, hU⟩ : ∃ z, World.alloc V12 (.cells #[.slice ae hC.length ce] 30) = z := ⟨_, rfl⟩
 have hsU : V13.heap.size = V12.heap.size + 1 := by rw [← hU]; simp
 rw [hU] at gw h1 ⊢
 clear hU
 obtain ⟨be, hbb⟩ : ∃ b, V12.heap.size = b := ⟨_, rfl⟩
 rw [hbb] at h1 hsU ⊢
 clear hbb
 replace hm := hm.grown gw
 replace Hc := hid (Hc.out.grown gw)
 replace Ha := hid (Ha.out.grown gw)
 replace Hb := hid (Hb.out.grown gw)
 replace Hd := hid (Hd.out.grown gw)
 replace Hu := hid (Hu.out.grown gw)
 replace HG := hid (gT HG.out gw)
 clear gw
 have hb := XB.new (n := 1) (m := [(0, 2)]) 1 hm rfl
 have gw := gAl V13 (.cells #[.int .i64 1, .slice ai 1 ci] 26) none
 obtain ⟨V14, hU⟩ : ∃ z, World.alloc V13 (.cells #[.int .i64 1, .slice ai 1 ci] 26) = z := ⟨_, rfl⟩
 rw [hU] at gw hb ⊢
 clear hU
 rw [hsU] at hb
 clear hsU
 obtain ⟨bi, hbb⟩ : ∃ b, be + 1 = b := ⟨_, rfl⟩
 rw [hbb] at hb ⊢
 clear hbb
 replace h1 := h1.grown gw
 replace Hc := hid (Hc.out.grown gw)
 replace Ha := hid (Ha.out.grown gw)
 replace Hb := hid (Hb.out.grown gw)
 replace Hd := hid (Hd.out.grown gw)
 replace Hu := hid (Hu.out.grown gw)
 replace HG := hid (gT HG.out gw)
 clear gw
 have He := hid h1
 clear h1
 have Hi := hid hb
 clear hb
 clear hr hm
 have qc := Hc.out.1
 have qa := Ha.out.1
 have ra := Ha.out.2.1
 have qb := Hb.out.1
 have rb := Hb.out.2.1
 have qd := Hd.out.1
 have qu := Hu.out.1
 have ru := Hu.out.2.1
 have qe := He.out.1
 have qi := Hi.out.1
 have ri := Hi.out.2.1
 go_wp2_with fail
 clear qc qa ra qb rb qd qu ru qe qi ri
 refine (h_loneB_at Hc.out.2.2 Hb.out.2.2.2).mono ?_
 rintro e V15 ⟨af, cf, rfl, hr, g⟩
 replace Hc := hid (Hc.out.grown g)
 replace Ha := hid (Ha.out.grown g)
 replace Hb := hid (Hb.out.grown g)
 replace Hd := hid (Hd.out.grown g)
 replace Hu := hid (Hu.out.grown g)
 replace He := hid (He.out.grown g)
 replace Hi := hid (Hi.out.grown g)
 replace HG := hid (gT HG.out g)
 clear g
 have qc := Hc.out.1
 have qa := Ha.out.1
 have ra := Ha.out.2.1
 have qb := Hb.out.1
 have rb := Hb.out.2.1
 have qd := Hd.out.1
 have qu := Hu.out.1
 have ru := Hu.out.2.1
 have qe := He.out.1
 have qi := Hi.out.1
 have ri := Hi.out.2.1
 go_upto_region 7 with fail
 clear qc qa ra qb rb qd qu ru qe qi ri
 have hb := CB.new hr
 have gw := gAl V15 (.cells #[.slice af hC.length cf] 30) none
 obtain ⟨V16, hV16⟩ : ∃ z, World.alloc V15 (.cells #[.slice af hC.length cf] 30) = z := ⟨_, rfl⟩
 have hsV16 : V16.heap.size = V15.heap.size + 1 := by rw [← hV16]; simp
 rw [hV16] at gw hb ⊢
 clear hV16
 obtain ⟨bf, hbb⟩ : ∃ b, V15.heap.size = b := ⟨_, rfl⟩
 rw [hbb] at hb hsV16 ⊢
 clear hbb
 replace Hc := hid (Hc.out.grown gw)
 replace Ha := hid (Ha.out.grown gw)
 replace Hb := hid (Hb.out.grown gw)
 replace Hd := hid (Hd.out.grown gw)
 replace Hu := hid (Hu.out.grown gw)
 replace He := hid (He.out.grown gw)
 replace Hi := hid (Hi.out.grown gw)
 replace HG := hid (gT HG.out gw)
 clear gw
 have Hf := hid hb
 clear hb
 clear hr hsV16
 have qc := Hc.out.1
 have qa := Ha.out.1
 have ra := Ha.out.2.1
 have qb := Hb.out.1
 have rb := Hb.out.2.1
 have qd := Hd.out.1
 have qu := Hu.out.1
 have ru := Hu.out.2.1
 have qe := He.out.1
 have qi := Hi.out.1
 have ri := Hi.out.2.1
 have qf := Hf.out.1
 go_wp2_with fail
 clear qc qa ra qb rb qd qu ru qe qi ri qf
 refine (h_loneA_at Hc.out.2.2 Ha.out.2.2.2).mono ?_
 rintro e V17 ⟨ag, cg, rfl, hr, g⟩
 replace Hc := hid (Hc.out.grown g)
 replace Ha := hid (Ha.out.grown g)
 replace Hb := hid (Hb.out.grown g)
 replace Hd := hid (Hd.out.grown g)
 replace Hu := hid (Hu.out.grown g)
 replace He := hid (He.out.grown g)
 replace Hi := hid (Hi.out.grown g)
 replace Hf := hid (Hf.out.grown g)
 replace HG := hid (gT HG.out g)
 clear g
 have qc := Hc.out.1
 have qa := Ha.out.1
 have ra := Ha.out.2.1
 have qb := Hb.out.1
 have rb := Hb.out.2.1
 have qd := Hd.out.1
 have qu := Hu.out.1
 have ru := Hu.out.2.1
 have qe := He.out.1
 have qi := Hi.out.1
 have ri := Hi.out.2.1
 have qf := Hf.out.1
 go_upto_region 8 with fail
 clear qc qa ra qb rb qd qu ru qe qi ri qf
 have hb := CB.new hr
 have gw := gAl V17 (.cells #[.slice ag hC.length cg] 30) none
 obtain ⟨V18, hV18⟩ : ∃ z, World.alloc V17 (.cells #[.slice ag hC.length cg] 30) = z := ⟨_, rfl⟩
 have hsV18 : V18.heap.size = V17.heap.size + 1 := by rw [← hV18]; simp
 rw [hV18] at gw hb ⊢
 clear hV18
 obtain ⟨bg, hbb⟩ : ∃ b, V17.heap.size = b := ⟨_, rfl⟩
 rw [hbb] at hb hsV18 ⊢
 clear hbb
 replace Hc := hid (Hc.out.grown gw)
 replace Ha := hid (Ha.out.grown gw)
 replace Hb := hid (Hb.out.grown gw)
 replace Hd := hid (Hd.out.grown gw)
 replace Hu := hid (Hu.out.grown gw)
 replace He := hid (He.out.grown gw)
 replace Hi := hid (Hi.out.grown gw)
 replace Hf := hid (Hf.out.grown gw)
 replace HG := hid (gT HG.out gw)
 clear gw
 have Hg := hid hb
 clear hb
 clear hr hsV18
 have HBC := hid (show CB V18 bc _ _ hC from Hc.out)
 refine hd8_all (fun c a d v w h => by cases d <;> exact h) HBC (hid ?_)
 intro ah ch aj cj bh bj _ _ _ _ _ _ _ _ _ _ _ _ _ _ _ _ _ _ _ _ _ _ _ _ _ _ _ _ _ _ _ _ _ _ _ _ _ _ _ _ _ _ _ _ _ _ _ _ _ _ _ _ _ _ _ _ _ _ _ _ _ _ _ _ _ _ _ _ _ _ _ _ _ _ _ _ _ _ _ _ _ _ _ _ _ _ _ _ _ _ _ _ _ _ _ _ _ _ _ _ _ _ _ _ _ _ _ _ _ _ _ _ _ _ _ _ _ _ _ _ _ _ _ _ _ _ _ _ _ _ _ _ _ _ _ _ _ _ _ _ _ _ _ _ _ _ _ _ _ _ _ _ _ _ _ _ _ _ _ _ _ _ V19 g _ _ hcb hxb
 replace Hc := hid (Hc.out.grown g)
 replace Ha := hid (Ha.out.grown g)
 replace Hb := hid (Hb.out.grown g)
 replace Hd := hid (Hd.out.grown g)
 replace Hu := hid (Hu.out.grown g)
 replace He := hid (He.out.grown g)
 replace Hi := hid (Hi.out.grown g)
 replace Hf := hid (Hf.out.grown g)
 replace Hg := hid (Hg.out.grown g)
 replace HG := hid (gT HG.out g)
 clear g
 have Hh := hid hcb
 have Hj := hid hxb
 clear hcb hxb
 have qc := Hc.out.1
 have qa := Ha.out.1
 have ra := Ha.out.2.1
 have qb := Hb.out.1
 have rb := Hb.out.2.1
 have qd := Hd.out.1
 have qu := Hu.out.1
 have ru := Hu.out.2.1
 have qe := He.out.1
 have qi := Hi.out.1
 have ri := Hi.out.2.1
 have qf := Hf.out.1
 have qg := Hg.out.1
 have qh := Hh.out.1
 have qj := Hj.out.1
 have rj := Hj.out.2.1
 go_upto_region 9 with fail
 clear qc qa ra qb rb qd qu ru qe qi ri qf qg qh qj rj
 have qc := Hc.out.1
 have qa := Ha.out.1
 have ra := Ha.out.2.1
 have qb := Hb.out.1
 have rb := Hb.out.2.1
 have qd := Hd.out.1
 have qu := Hu.out.1
 have ru := Hu.out.2.1
 have qe := He.out.1
 have qi := Hi.out.1
 have ri := Hi.out.2.1
 have qf := Hf.out.1
 have qg := Hg.out.1
 have qh := Hh.out.1
 have qj := Hj.out.1
 have rj := Hj.out.2.1
 go_wp2_with fail
 clear qc qa ra qb rb qd qu ru qe qi ri qf qg qh qj rj
 refine (h_in_at Hc.out.2.2 Hi.out.2.2.2 Ha.out.2.2.2).mono ?_
 rintro e V20 ⟨ao, co, rfl, hr, g⟩
 replace Hc := hid (Hc.out.grown g)
 replace Ha := hid (Ha.out.grown g)
 replace Hb := hid (Hb.out.grown g)
 replace Hd := hid (Hd.out.grown g)
 replace Hu := hid (Hu.out.grown g)
 replace He := hid (He.out.grown g)
 replace Hi := hid (Hi.out.grown g)
 replace Hf := hid (Hf.out.grown g)
 replace Hg := hid (Hg.out.grown g)
 replace Hh := hid (Hh.out.grown g)
 replace Hj := hid (Hj.out.grown g)
 replace HG := hid (gT HG.out g)
 clear g
 have qc := Hc.out.1
 have qa := Ha.out.1
 have ra := Ha.out.2.1
 have qb := Hb.out.1
 have rb := Hb.out.2.1
 have qd := Hd.out.1
 have qu := Hu.out.1
 have ru := Hu.out.2.1
 have qe := He.out.1
 have qi := Hi.out.1
 have ri := Hi.out.2.1
 have qf := Hf.out.1
 have qg := Hg.out.1
 have qh := Hh.out.1
 have qj := Hj.out.1
 have rj := Hj.out.2.1
 go_upto_region 10 with fail
 clear qc qa ra qb rb qd qu ru qe qi ri qf qg qh qj rj
 have hb := CB.new hr
 have gw := gAl V20 (.cells #[.slice ao hC.length co] 30) none
 obtain ⟨V21, hV21⟩ : ∃ z, World.alloc V20 (.cells #[.slice ao hC.length co] 30) = z := ⟨_, rfl⟩
 have hsV21 : V21.heap.size = V20.heap.size + 1 := by rw [← hV21]; simp
 rw [hV21] at gw hb ⊢
 clear hV21
 obtain ⟨bo, hbb⟩ : ∃ b, V20.heap.size = b := ⟨_, rfl⟩
 rw [hbb] at hb hsV21 ⊢
 clear hbb
 replace Hc := hid (Hc.out.grown gw)
 replace Ha := hid (Ha.out.grown gw)
 replace Hb := hid (Hb.out.grown gw)
 replace Hd := hid (Hd.out.grown gw)
 replace Hu := hid (Hu.out.grown gw)
 replace He := hid (He.out.grown gw)
 replace Hi := hid (Hi.out.grown gw)
 replace Hf := hid (Hf.out.grown gw)
 replace Hg := hid (Hg.out.grown gw)
 replace Hh := hid (Hh.out.grown gw)
 replace Hj := hid (Hj.out.grown gw)
 replace HG := hid (gT HG.out gw)
 clear gw
 have Ho := hid hb
 clear hb
 clear hr hsV21
 have qc := Hc.out.1
 have qa := Ha.out.1
 have ra := Ha.out.2.1
 have qb := Hb.out.1
 have rb := Hb.out.2.1
 have qd := Hd.out.1
 have qu := Hu.out.1
 have ru := Hu.out.2.1
 have qe := He.out.1
 have qi := Hi.out.1
 have ri := Hi.out.2.1
 have qf := Hf.out.1
 have qg := Hg.out.1
 have qh := Hh.out.1
 have qj := Hj.out.1
 have rj := Hj.out.2.1
 have qo := Ho.out.1
 go_wp2_with fail
 clear qc qa ra qb rb qd qu ru qe qi ri qf qg qh qj rj qo
 refine (h_some_at Hc.out.2.2 Hb.out.2.2.2).mono ?_
 rintro e V22 ⟨az, cz, rfl, hr, g⟩
 replace Hc := hid (Hc.out.grown g)
 replace Ha := hid (Ha.out.grown g)
 replace Hb := hid (Hb.out.grown g)
 replace Hd := hid (Hd.out.grown g)
 replace Hu := hid (Hu.out.grown g)
 replace He := hid (He.out.grown g)
 replace Hi := hid (Hi.out.grown g)
 replace Hf := hid (Hf.out.grown g)
 replace Hg := hid (Hg.out.grown g)
 replace Hh := hid (Hh.out.grown g)
 replace Hj := hid (Hj.out.grown g)
 replace Ho := hid (Ho.out.grown g)
 replace HG := hid (gT HG.out g)
 clear g
 have qc := Hc.out.1
 have qa := Ha.out.1
 have ra := Ha.out.2.1
 have qb := Hb.out.1
 have rb := Hb.out.2.1
 have qd := Hd.out.1
 have qu := Hu.out.1
 have ru := Hu.out.2.1
 have qe := He.out.1
 have qi := Hi.out.1
 have ri := Hi.out.2.1
 have qf := Hf.out.1
 have qg := Hg.out.1
 have qh := Hh.out.1
 have qj := Hj.out.1
 have rj := Hj.out.2.1
 have qo := Ho.out.1
 go_upto_region 11 with fail
 clear qc qa ra qb rb qd qu ru qe qi ri qf qg qh qj rj qo
 have hb := CB.new hr
 have gw := gAl V22 (.cells #[.slice az hC.length cz] 30) none
 obtain ⟨V23, hV23⟩ : ∃ z, World.alloc V22 (.cells #[.slice az hC.length cz] 30) = z := ⟨_, rfl⟩
 have hsV23 : V23.heap.size = V22.heap.size + 1 := by rw [← hV23]; simp
 rw [hV23] at gw hb ⊢
 clear hV23
 obtain ⟨bz, hbb⟩ : ∃ b, V22.heap.size = b := ⟨_, rfl⟩
 rw [hbb] at hb hsV23 ⊢
 clear hbb
 replace Hc := hid (Hc.out.grown gw)
 replace Ha := hid (Ha.out.grown gw)
 replace Hb := hid (Hb.out.grown gw)
 replace Hd := hid (Hd.out.grown gw)
 replace Hu := hid (Hu.out.grown gw)
 replace He := hid (He.out.grown gw)
 replace Hi := hid (Hi.out.grown gw)
 replace Hf := hid (Hf.out.grown gw)
 replace Hg := hid (Hg.out.grown gw)
 replace Hh := hid (Hh.out.grown gw)
 replace Hj := hid (Hj.out.grown gw)
 replace Ho := hid (Ho.out.grown gw)
 replace HG := hid (gT HG.out gw)
 clear gw
 have Hz := hid hb
 clear hb
 clear hr hsV23
 have qc := Hc.out.1
 have qa := Ha.out.1
 have ra := Ha.out.2.1
 have qb := Hb.out.1
 have rb := Hb.out.2.1
 have qd := Hd.out.1
 have qu := Hu.out.1
 have ru := Hu.out.2.1
 have qe := He.out.1
 have qi := Hi.out.1
 have ri := Hi.out.2.1
 have qf := Hf.out.1
 have qg := Hg.out.1
 have qh := Hh.out.1
 have qj := Hj.out.1
 have rj := Hj.out.2.1
 have qo := Ho.out.1
 have qz := Hz.out.1
 go_wp2_with fail
 clear qc qa ra qb rb qd qu ru qe qi ri qf qg qh qj rj qo qz
 have hb := bools_lit1 V23 false
 have g := gAl V23 (.cells #[.bool false] 4) none
 obtain ⟨V24, hU⟩ : ∃ z, World.alloc V23 (.cells #[.bool false] 4) = z := ⟨_, rfl⟩
 rw [hU] at g hb ⊢
 clear hU
 obtain ⟨p3, hbb⟩ : ∃ b, V23.heap.size = b := ⟨_, rfl⟩
 rw [hbb] at hb ⊢
 clear hbb
 replace Hc := hid (Hc.out.grown g)
 replace Ha := hid (Ha.out.grown g)
 replace Hb := hid (Hb.out.grown g)
 replace Hd := hid (Hd.out.grown g)
 replace Hu := hid (Hu.out.grown g)
 replace He := hid (He.out.grown g)
 replace Hi := hid (Hi.out.grown g)
 replace Hf := hid (Hf.out.grown g)
 replace Hg := hid (Hg.out.grown g)
 replace Hh := hid (Hh.out.grown g)
 replace Hj := hid (Hj.out.grown g)
 replace Ho := hid (Ho.out.grown g)
 replace Hz := hid (Hz.out.grown g)
 replace HG := hid (gT HG.out g)
 clear g
 refine (h_value_at Hd.out.2.2 Hu.out.2.2.2 hb).mono ?_
 rintro e V25 ⟨ay, cy, rfl, hr, g⟩
 clear hb
 replace Hc := hid (Hc.out.grown g)
 replace Ha := hid (Ha.out.grown g)
 replace Hb := hid (Hb.out.grown g)
 replace Hd := hid (Hd.out.grown g)
 replace Hu := hid (Hu.out.grown g)
 replace He := hid (He.out.grown g)
 replace Hi := hid (Hi.out.grown g)
 replace Hf := hid (Hf.out.grown g)
 replace Hg := hid (Hg.out.grown g)
 replace Hh := hid (Hh.out.grown g)
 replace Hj := hid (Hj.out.grown g)
 replace Ho := hid (Ho.out.grown g)
 replace Hz := hid (Hz.out.grown g)
 replace HG := hid (gT HG.out g)
 clear g
 have qc := Hc.out.1
 have qa := Ha.out.1
 have ra := Ha.out.2.1
 have qb := Hb.out.1
 have rb := Hb.out.2.1
 have qd := Hd.out.1
 have qu := Hu.out.1
 have ru := Hu.out.2.1
 have qe := He.out.1
 have qi := Hi.out.1
 have ri := Hi.out.2.1
 have qf := Hf.out.1
 have qg := Hg.out.1
 have qh := Hh.out.1
 have qj := Hj.out.1
 have rj := Hj.out.2.1
 have qo := Ho.out.1
 have qz := Hz.out.1
 go_upto_region 12 with fail
 clear qc qa ra qb rb qd qu ru qe qi ri qf qg qh qj rj qo qz
 have hb := YB.new (n := 3) 1 hr rfl
 have gw := gAl V25 (.cells #[.int .i64 1, .slice ay 3 cy] 47) none
 obtain ⟨V26, hV26⟩ : ∃ z, World.alloc V25 (.cells #[.int .i64 1, .slice ay 3 cy] 47) = z := ⟨_, rfl⟩
 have hsV26 : V26.heap.size = V25.heap.size + 1 := by rw [← hV26]; simp
 rw [hV26] at gw hb ⊢
 clear hV26
 obtain ⟨by1, hbb⟩ : ∃ b, V25.heap.size = b := ⟨_, rfl⟩
 rw [hbb] at hb hsV26 ⊢
 clear hbb
 replace Hc := hid (Hc.out.grown gw)
 replace Ha := hid (Ha.out.grown gw)
 replace Hb := hid (Hb.out.grown gw)
 replace Hd := hid (Hd.out.grown gw)
 replace Hu := hid (Hu.out.grown gw)
 replace He := hid (He.out.grown gw)
 replace Hi := hid (Hi.out.grown gw)
 replace Hf := hid (Hf.out.grown gw)
 replace Hg := hid (Hg.out.grown gw)
 replace Hh := hid (Hh.out.grown gw)
 replace Hj := hid (Hj.out.grown gw)
 replace Ho := hid (Ho.out.grown gw)
 replace Hz := hid (Hz.out.grown gw)
 replace HG := hid (gT HG.out gw)
 clear gw
 have Hy := hid hb
 clear hb
 clear hr hsV26
 refine hd12_all (fun c a d v w h => by cases d <;> exact h) Hc Hd He Hf Hg Hh Hb Hu Hi Hj Hy ?_
 intro _ _ _ _ _ _ _ _ _ _ _ _ _ _ _ _ _ _ _ _ _ _ _ _ _ _ _ _ _ _ _ _ _ _ _ _ _ _ _ _ _ _ _ _ _ _ _ _ _ _ _ _ _ _ _ _ _ _ _ _ _ _ _ _ _ _ _ _ _ _ _ _ _ _ _ _ _ _ _ _ _ _ _ _ _ _ _ _ _ _ _ _ _ _ _ _ _ _ _ _ _ _ _ _ _ _ _ _ _ _ _ _ _ _ _ _ _ _ _ _ _ _ _ _ _ _ _ _ _ _ _ _ _ _ _ _ _ _ _ _ _ _ _ _ _ _ _ _ _ _ _ _ _ _ _ _ _ _ _ _ _ _ _ _ _ _ _ _ _ _ _ _ _ _ _ W hEND
 go_wp2_with fail
 go_ret
 exact ⟨rfl, gT HG.out hEND⟩
end Go.Proofs.Ythdhmflodiincaa
