/- Texts of the proof: RY UA UD UE UH0. -/
import Derived.Test.YthdhmflodiincaaGreatCC21
import Derived.Deep.DeepCutAuto
import Derived.Test.YthdhmflodiincaaGreatCC19
import Derived.Test.YthdhmflodiincaaGreatCC17
import Derived.Test.YthdhmflodiincaaGreatCC18
import Derived.Test.YthdhmflodiincaaGreatCC08
import Derived.Test.YthdhmflodiincaaGreatCC09
import Derived.Test.YthdhmflodiincaaGreatCC00
import Derived.Laws.EntriesVeiled
import Derived.Test.YthdhmflodiincaaGreatCC12
import Derived.Test.YthdhmflodiincaaGreatCC16
import Derived.Test.YthdhmflodiincaaGreatCC15
set_option maxRecDepth 100000
set_option maxHeartbeats 8000000
namespace Go.Proofs.YthdhmflodiincaaGreat
open Go.RowKit Go.Maps

theorem head_calls (w : World) : Calls Tryz.prog 7 #[] w fun e w' => e = .returned (.bool true) ∧ w.grownBy w' none := by
 have HG := Lib.hid (grown_refl w none)
 go_enter Tryz.func7, Tryz.ntmps7
 go_wp2_with fail
 refine (rnew_calls _).mono ?_
 rintro e V1 ⟨y, rfl, ⟨a1, c1, rfl, hr1⟩, g⟩
 replace HG := Lib.hid (gT HG.out g)
 clear g
 go_wp2_with fail
 refine (rinput_at 1 h_input good_new (by decide) hr1).mono ?_
 rintro e V2 ⟨a2, c2, rfl, hr, g⟩
 clear hr1
 replace HG := Lib.hid (gT HG.out g)
 clear g
 go_upto_region 2 with fail
 have hb := CB.new hr
 have gw := gAl V2 (.cells #[.slice a2 hC.length c2] 27) none
 obtain ⟨V3, hV3⟩ : ∃ z, World.alloc V2 (.cells #[.slice a2 hC.length c2] 27) = z := ⟨_, rfl⟩
 have hsV3 : V3.heap.size = V2.heap.size + 1 := by rw [← hV3]; simp
 rw [hV3] at gw hb ⊢
 clear hV3
 obtain ⟨bc, hbb⟩ : ∃ b, V2.heap.size = b := ⟨_, rfl⟩
 rw [hbb] at hb hsV3 ⊢
 clear hbb
 replace HG := Lib.hid (gT HG.out gw)
 clear gw
 have Hc := Lib.hid hb
 clear hb
 clear hr hsV3
 have qc := Hc.out.1
 go_wp2_with fail
 clear qc
 have hb := ints_lit2 V3 0 2
 have gw := gAl V3 (.cells #[.int .i64 0, .int .i64 2] 3) none
 obtain ⟨V4, hV4⟩ : ∃ z, World.alloc V3 (.cells #[.int .i64 0, .int .i64 2] 3) = z := ⟨_, rfl⟩
 have hsV4 : V4.heap.size = V3.heap.size + 1 := by rw [← hV4]; simp
 rw [hV4] at gw hb ⊢
 clear hV4
 obtain ⟨p1, hbb⟩ : ∃ b, V3.heap.size = b := ⟨_, rfl⟩
 rw [hbb] at hb hsV4 ⊢
 clear hbb
 replace Hc := Lib.hid (Hc.out.grown gw)
 replace HG := Lib.hid (gT HG.out gw)
 clear gw
 have Hr1 := Lib.hid hb
 clear hb
 clear hsV4
 have hr1 := Hr1.out
 clear Hr1
 refine (const2_at 1 0 2 hr1).mono ?_
 rintro e V5 ⟨a3, c3, rfl, hm, g⟩
 clear hr1
 replace Hc := Lib.hid (Hc.out.grown g)
 replace HG := Lib.hid (gT HG.out g)
 clear g
 have qc := Hc.out.1
 go_upto_region 3 with fail
 clear qc
 have hb := XB.new (n := 2) 1 (show CellsW V5 a3 c3 hA from hm) rfl
 have gw := gAl V5 (.cells #[.int .i64 1, .slice a3 2 c3] 35) none
 obtain ⟨V6, hV6⟩ : ∃ z, World.alloc V5 (.cells #[.int .i64 1, .slice a3 2 c3] 35) = z := ⟨_, rfl⟩
 have hsV6 : V6.heap.size = V5.heap.size + 1 := by rw [← hV6]; simp
 rw [hV6] at gw hb ⊢
 clear hV6
 obtain ⟨ba, hbb⟩ : ∃ b, V5.heap.size = b := ⟨_, rfl⟩
 rw [hbb] at hb hsV6 ⊢
 clear hbb
 replace Hc := Lib.hid (Hc.out.grown gw)
 replace HG := Lib.hid (gT HG.out gw)
 clear gw
 have Ha := Lib.hid hb
 clear hb
 clear hm hsV6
 have qc := Hc.out.1
 have qa := Ha.out.1
 have ra := Ha.out.2.1
 go_wp2_with fail
 clear qc qa ra
 have hn := rnot_at (w := V6) 2 (by decide)
 rw [show notR 2 = 3 from rfl] at hn
 refine (hn).mono ?_
 rintro e w9 ⟨rfl, hw9⟩
 rw [hw9]
 clear hw9 w9
 clear hn
 have qc := Hc.out.1
 have qa := Ha.out.1
 have ra := Ha.out.2.1
 go_upto_region 4 with fail
 clear qc qa ra
 have h1 := cells_lit2 V6 (0, 2) (1, 3)
 have gw := gAl V6 (.cells #[.int .i64 0, .int .i64 2, .int .i64 1, .int .i64 3] 70) none
 obtain ⟨V7, hU⟩ : ∃ z, World.alloc V6 (.cells #[.int .i64 0, .int .i64 2, .int .i64 1, .int .i64 3] 70) = z := ⟨_, rfl⟩
 have hsU : V7.heap.size = V6.heap.size + 1 := by rw [← hU]; simp
 rw [hU] at gw h1 ⊢
 clear hU
 obtain ⟨p2, hbb⟩ : ∃ b, V6.heap.size = b := ⟨_, rfl⟩
 rw [hbb] at h1 hsU ⊢
 clear hbb
 replace Hc := Lib.hid (Hc.out.grown gw)
 replace Ha := Lib.hid (Ha.out.grown gw)
 replace HG := Lib.hid (gT HG.out gw)
 clear gw
 have hb := XB.new (n := 2) 1 (show CellsW V7 (some ⟨p2, 0, none⟩) 2 hB from h1) rfl
 have gw := gAl V7 (.cells #[.int .i64 1, .slice (some ⟨p2, 0, none⟩) 2 2] 35) none
 obtain ⟨V8, hU⟩ : ∃ z, World.alloc V7 (.cells #[.int .i64 1, .slice (some ⟨p2, 0, none⟩) 2 2] 35) = z := ⟨_, rfl⟩
 rw [hU] at gw hb ⊢
 clear hU
 rw [hsU] at hb
 clear hsU
 obtain ⟨bb, hbb⟩ : ∃ b, p2 + 1 = b := ⟨_, rfl⟩
 rw [hbb] at hb ⊢
 clear hbb
 replace Hc := Lib.hid (Hc.out.grown gw)
 replace Ha := Lib.hid (Ha.out.grown gw)
 replace HG := Lib.hid (gT HG.out gw)
 clear gw
 clear h1
 have Hb := Lib.hid hb
 clear hb
 have qc := Hc.out.1
 have qa := Ha.out.1
 have ra := Ha.out.2.1
 have qb := Hb.out.1
 have rb := Hb.out.2.1
 go_wp2_with fail
 clear qc qa ra qb rb
 refine (h_union_at Hc.out.2.2 Ha.out.2.2.2 Hb.out.2.2.2).mono ?_
 rintro e V9 ⟨ad, cd, au, nu, cu, rfl, hn, hr, hm, g⟩
 obtain rfl : nu = 3 := hn.symm
 clear hn
 replace Hc := Lib.hid (Hc.out.grown g)
 replace Ha := Lib.hid (Ha.out.grown g)
 replace Hb := Lib.hid (Hb.out.grown g)
 replace HG := Lib.hid (gT HG.out g)
 clear g
 have qc := Hc.out.1
 have qa := Ha.out.1
 have ra := Ha.out.2.1
 have qb := Hb.out.1
 have rb := Hb.out.2.1
 go_upto_region 5 with fail
 clear qc qa ra qb rb
 have h1 := CB.new hr
 have gw := gAl V9 (.cells #[.slice ad hC.length cd] 27) none
 obtain ⟨V10, hU⟩ : ∃ z, World.alloc V9 (.cells #[.slice ad hC.length cd] 27) = z := ⟨_, rfl⟩
 have hsU : V10.heap.size = V9.heap.size + 1 := by rw [← hU]; simp
 rw [hU] at gw h1 ⊢
 clear hU
 obtain ⟨bd, hbb⟩ : ∃ b, V9.heap.size = b := ⟨_, rfl⟩
 rw [hbb] at h1 hsU ⊢
 clear hbb
 replace hm := hm.grown gw
 replace Hc := Lib.hid (Hc.out.grown gw)
 replace Ha := Lib.hid (Ha.out.grown gw)
 replace Hb := Lib.hid (Hb.out.grown gw)
 replace HG := Lib.hid (gT HG.out gw)
 clear gw
 have hb := XB.new (n := 3) (m := [(0, 0), (1, 3), (2, 0)]) 1 hm rfl
 have gw := gAl V10 (.cells #[.int .i64 1, .slice au 3 cu] 35) none
 obtain ⟨V11, hU⟩ : ∃ z, World.alloc V10 (.cells #[.int .i64 1, .slice au 3 cu] 35) = z := ⟨_, rfl⟩
 rw [hU] at gw hb ⊢
 clear hU
 rw [hsU] at hb
 clear hsU
 obtain ⟨bu, hbb⟩ : ∃ b, bd + 1 = b := ⟨_, rfl⟩
 rw [hbb] at hb ⊢
 clear hbb
 replace h1 := h1.grown gw
 replace Hc := Lib.hid (Hc.out.grown gw)
 replace Ha := Lib.hid (Ha.out.grown gw)
 replace Hb := Lib.hid (Hb.out.grown gw)
 replace HG := Lib.hid (gT HG.out gw)
 clear gw
 have Hd := Lib.hid h1
 clear h1
 have Hu := Lib.hid hb
 clear hb
 clear hr hm
 have qc := Hc.out.1
 have qa := Ha.out.1
 have ra := Ha.out.2.1
 have qb := Hb.out.1
 have rb := Hb.out.2.1
 have qd := Hd.out.1
 have qu := Hu.out.1
 have ru := Hu.out.2.1
 go_wp2_with fail
 clear qc qa ra qb rb qd qu ru
 refine (h_inter_at Hc.out.2.2 Ha.out.2.2.2 Hb.out.2.2.2).mono ?_
 rintro e V12 ⟨ae, ce, ai, ni, ci, rfl, hn, hr, hm, g⟩
 obtain rfl : ni = 1 := hn.symm
 clear hn
 replace Hc := Lib.hid (Hc.out.grown g)
 replace Ha := Lib.hid (Ha.out.grown g)
 replace Hb := Lib.hid (Hb.out.grown g)
 replace Hd := Lib.hid (Hd.out.grown g)
 replace Hu := Lib.hid (Hu.out.grown g)
 replace HG := Lib.hid (gT HG.out g)
 clear g
 have qc := Hc.out.1
 have qa := Ha.out.1
 have ra := Ha.out.2.1
 have qb := Hb.out.1
 have rb := Hb.out.2.1
 have qd := Hd.out.1
 have qu := Hu.out.1
 have ru := Hu.out.2.1
 go_upto_region 6 with fail
 clear qc qa ra qb rb qd qu ru
 have h1 := CB.new hr
 have gw := gAl V12 (.cells #[.slice ae hC.length ce] 27) none
 obtain ⟨V13, hU⟩ : ∃ z, World.alloc V12 (.cells #[.slice ae hC.length ce] 27) = z := ⟨_, rfl⟩
 have hsU : V13.heap.size = V12.heap.size + 1 := by rw [← hU]; simp
 rw [hU] at gw h1 ⊢
 clear hU
 obtain ⟨be, hbb⟩ : ∃ b, V12.heap.size = b := ⟨_, rfl⟩
 rw [hbb] at h1 hsU ⊢
 clear hbb
 replace hm := hm.grown gw
 replace Hc := Lib.hid (Hc.out.grown gw)
 replace Ha := Lib.hid (Ha.out.grown gw)
 replace Hb := Lib.hid (Hb.out.grown gw)
 replace Hd := Lib.hid (Hd.out.grown gw)
 replace Hu := Lib.hid (Hu.out.grown gw)
 replace HG := Lib.hid (gT HG.out gw)
 clear gw
 have hb := XB.new (n := 1) (m := [(0, 2)]) 1 hm rfl
 have gw := gAl V13 (.cells #[.int .i64 1, .slice ai 1 ci] 35) none
 obtain ⟨V14, hU⟩ : ∃ z, World.alloc V13 (.cells #[.int .i64 1, .slice ai 1 ci] 35) = z := ⟨_, rfl⟩
 rw [hU] at gw hb ⊢
 clear hU
 rw [hsU] at hb
 clear hsU
 obtain ⟨bi, hbb⟩ : ∃ b, be + 1 = b := ⟨_, rfl⟩
 rw [hbb] at hb ⊢
 clear hbb
 replace h1 := h1.grown gw
 replace Hc := Lib.hid (Hc.out.grown gw)
 replace Ha := Lib.hid (Ha.out.grown gw)
 replace Hb := Lib.hid (Hb.out.grown gw)
 replace Hd := Lib.hid (Hd.out.grown gw)
 replace Hu := Lib.hid (Hu.out.grown gw)
 replace HG := Lib.hid (gT HG.out gw)
 clear gw
 have He := Lib.hid h1
 clear h1
 have Hi := Lib.hid hb
 clear hb
 clear hr hm
 have qc := Hc.out.1
 have qa := Ha.out.1
 have ra := Ha.out.2.1
 have qb := Hb.out.1
 have rb := Hb.out.2.1
 have qd := Hd.out.1
 have qu := Hu.out.1
 have ru := Hu.out.2.1
 have qe := He.out.1
 have qi := Hi.out.1
 have ri := Hi.out.2.1
 go_wp2_with fail
 clear qc qa ra qb rb qd qu ru qe qi ri
 refine (h_loneB_at Hc.out.2.2 Hb.out.2.2.2).mono ?_
 rintro e V15 ⟨af, cf, rfl, hr, g⟩
 replace Hc := Lib.hid (Hc.out.grown g)
 replace Ha := Lib.hid (Ha.out.grown g)
 replace Hb := Lib.hid (Hb.out.grown g)
 replace Hd := Lib.hid (Hd.out.grown g)
 replace Hu := Lib.hid (Hu.out.grown g)
 replace He := Lib.hid (He.out.grown g)
 replace Hi := Lib.hid (Hi.out.grown g)
 replace HG := Lib.hid (gT HG.out g)
 clear g
 have qc := Hc.out.1
 have qa := Ha.out.1
 have ra := Ha.out.2.1
 have qb := Hb.out.1
 have rb := Hb.out.2.1
 have qd := Hd.out.1
 have qu := Hu.out.1
 have ru := Hu.out.2.1
 have qe := He.out.1
 have qi := Hi.out.1
 have ri := Hi.out.2.1
 go_upto_region 7 with fail
 clear qc qa ra qb rb qd qu ru qe qi ri
 have hb := CB.new hr
 have gw := gAl V15 (.cells #[.slice af hC.length cf] 27) none
 obtain ⟨V16, hV16⟩ : ∃ z, World.alloc V15 (.cells #[.slice af hC.length cf] 27) = z := ⟨_, rfl⟩
 have hsV16 : V16.heap.size = V15.heap.size + 1 := by rw [← hV16]; simp
 rw [hV16] at gw hb ⊢
 clear hV16
 obtain ⟨bf, hbb⟩ : ∃ b, V15.heap.size = b := ⟨_, rfl⟩
 rw [hbb] at hb hsV16 ⊢
 clear hbb
 replace Hc := Lib.hid (Hc.out.grown gw)
 replace Ha := Lib.hid (Ha.out.grown gw)
 replace Hb := Lib.hid (Hb.out.grown gw)
 replace Hd := Lib.hid (Hd.out.grown gw)
 replace Hu := Lib.hid (Hu.out.grown gw)
 replace He := Lib.hid (He.out.grown gw)
 replace Hi := Lib.hid (Hi.out.grown gw)
 replace HG := Lib.hid (gT HG.out gw)
 clear gw
 have Hf := Lib.hid hb
 clear hb
 clear hr hsV16
 have qc := Hc.out.1
 have qa := Ha.out.1
 have ra := Ha.out.2.1
 have qb := Hb.out.1
 have rb := Hb.out.2.1
 have qd := Hd.out.1
 have qu := Hu.out.1
 have ru := Hu.out.2.1
 have qe := He.out.1
 have qi := Hi.out.1
 have ri := Hi.out.2.1
 have qf := Hf.out.1
 go_wp2_with fail
 clear qc qa ra qb rb qd qu ru qe qi ri qf
 refine (h_loneA_at Hc.out.2.2 Ha.out.2.2.2).mono ?_
 rintro e V17 ⟨ag, cg, rfl, hr, g⟩
 replace Hc := Lib.hid (Hc.out.grown g)
 replace Ha := Lib.hid (Ha.out.grown g)
 replace Hb := Lib.hid (Hb.out.grown g)
 replace Hd := Lib.hid (Hd.out.grown g)
 replace Hu := Lib.hid (Hu.out.grown g)
 replace He := Lib.hid (He.out.grown g)
 replace Hi := Lib.hid (Hi.out.grown g)
 replace Hf := Lib.hid (Hf.out.grown g)
 replace HG := Lib.hid (gT HG.out g)
 clear g
 have qc := Hc.out.1
 have qa := Ha.out.1
 have ra := Ha.out.2.1
 have qb := Hb.out.1
 have rb := Hb.out.2.1
 have qd := Hd.out.1
 have qu := Hu.out.1
 have ru := Hu.out.2.1
 have qe := He.out.1
 have qi := Hi.out.1
 have ri := Hi.out.2.1
 have qf := Hf.out.1
 go_upto_region 8 with fail
 clear qc qa ra qb rb qd qu ru qe qi ri qf
 have hb := CB.new hr
 have gw := gAl V17 (.cells #[.slice ag hC.length cg] 27) none
 obtain ⟨V18, hV18⟩ : ∃ z, World.alloc V17 (.cells #[.slice ag hC.length cg] 27) = z := ⟨_, rfl⟩
 have hsV18 : V18.heap.size = V17.heap.size + 1 := by rw [← hV18]; simp
 rw [hV18] at gw hb ⊢
 clear hV18
 obtain ⟨bg, hbb⟩ : ∃ b, V17.heap.size = b := ⟨_, rfl⟩
 rw [hbb] at hb hsV18 ⊢
 clear hbb
 replace Hc := Lib.hid (Hc.out.grown gw)
 replace Ha := Lib.hid (Ha.out.grown gw)
 replace Hb := Lib.hid (Hb.out.grown gw)
 replace Hd := Lib.hid (Hd.out.grown gw)
 replace Hu := Lib.hid (Hu.out.grown gw)
 replace He := Lib.hid (He.out.grown gw)
 replace Hi := Lib.hid (Hi.out.grown gw)
 replace Hf := Lib.hid (Hf.out.grown gw)
 replace HG := Lib.hid (gT HG.out gw)
 clear gw
 have Hg := Lib.hid hb
 clear hb
 clear hr hsV18
 have HBC := Lib.hid (show CB V18 bc _ _ hC from Hc.out)
 refine hd8_all (fun c a d v w h => by cases d <;> exact h) HBC (Lib.hid ?_)
 intro ah ch aj cj bh bj _ _ _ _ _ _ _ _ _ _ _ _ _ _ _ _ _ _ _ _ _ _ _ _ _ _ _ _ _ _ _ _ _ _ _ _ _ _ _ _ _ _ _ _ _ _ _ _ _ _ _ _ _ _ _ _ _ _ _ _ _ _ _ _ _ _ _ _ _ _ _ _ _ _ _ _ _ _ _ _ _ _ _ _ _ _ _ _ _ _ _ _ _ _ _ _ _ _ _ _ _ _ _ _ _ _ _ _ _ _ _ _ _ _ _ _ _ _ _ _ _ _ _ _ _ _ _ _ _ _ _ _ _ _ _ _ _ _ _ _ _ _ _ _ _ _ _ _ _ _ _ _ _ _ _ _ _ _ _ _ _ _ V19 g _ _ hcb hxb
 replace Hc := Lib.hid (Hc.out.grown g)
 replace Ha := Lib.hid (Ha.out.grown g)
 replace Hb := Lib.hid (Hb.out.grown g)
 replace Hd := Lib.hid (Hd.out.grown g)
 replace Hu := Lib.hid (Hu.out.grown g)
 replace He := Lib.hid (He.out.grown g)
 replace Hi := Lib.hid (Hi.out.grown g)
 replace Hf := Lib.hid (Hf.out.grown g)
 replace Hg := Lib.hid (Hg.out.grown g)
 replace HG := Lib.hid (gT HG.out g)
 clear g
 have Hh := Lib.hid hcb
 have Hj := Lib.hid hxb
 clear hcb hxb
 have qc := Hc.out.1
 have qa := Ha.out.1
 have ra := Ha.out.2.1
 have qb := Hb.out.1
 have rb := Hb.out.2.1
 have qd := Hd.out.1
 have qu := Hu.out.1
 have ru := Hu.out.2.1
 have qe := He.out.1
 have qi := Hi.out.1
 have ri := Hi.out.2.1
 have qf := Hf.out.1
 have qg := Hg.out.1
 have qh := Hh.out.1
 have qj := Hj.out.1
 have rj := Hj.out.2.1
 go_upto_region 9 with fail
 clear qc qa ra qb rb qd qu ru qe qi ri qf qg qh qj rj
 have qc := Hc.out.1
 have qa := Ha.out.1
 have ra := Ha.out.2.1
 have qb := Hb.out.1
 have rb := Hb.out.2.1
 have qd := Hd.out.1
 have qu := Hu.out.1
 have ru := Hu.out.2.1
 have qe := He.out.1
 have qi := Hi.out.1
 have ri := Hi.out.2.1
 have qf := Hf.out.1
 have qg := Hg.out.1
 have qh := Hh.out.1
 have qj := Hj.out.1
 have rj := Hj.out.2.1
 go_wp2_with fail
 clear qc qa ra qb rb qd qu ru qe qi ri qf qg qh qj rj
 refine (h_in_at Hc.out.2.2 Hi.out.2.2.2 Ha.out.2.2.2).mono ?_
 rintro e V20 ⟨ao, co, rfl, hr, g⟩
 replace Hc := Lib.hid (Hc.out.grown g)
 replace Ha := Lib.hid (Ha.out.grown g)
 replace Hb := Lib.hid (Hb.out.grown g)
 replace Hd := Lib.hid (Hd.out.grown g)
 replace Hu := Lib.hid (Hu.out.grown g)
 replace He := Lib.hid (He.out.grown g)
 replace Hi := Lib.hid (Hi.out.grown g)
 replace Hf := Lib.hid (Hf.out.grown g)
 replace Hg := Lib.hid (Hg.out.grown g)
 replace Hh := Lib.hid (Hh.out.grown g)
 replace Hj := Lib.hid (Hj.out.grown g)
 replace HG := Lib.hid (gT HG.out g)
 clear g
 have qc := Hc.out.1
 have qa := Ha.out.1
 have ra := Ha.out.2.1
 have qb := Hb.out.1
 have rb := Hb.out.2.1
 have qd := Hd.out.1
 have qu := Hu.out.1
 have ru := Hu.out.2.1
 have qe := He.out.1
 have qi := Hi.out.1
 have ri := Hi.out.2.1
 have qf := Hf.out.1
 have qg := Hg.out.1
 have qh := Hh.out.1
 have qj := Hj.out.1
 have rj := Hj.out.2.1
 go_upto_region 10 with fail
 clear qc qa ra qb rb qd qu ru qe qi ri qf qg qh qj rj
 have hb := CB.new hr
 have gw := gAl V20 (.cells #[.slice ao hC.length co] 27) none
 obtain ⟨V21, hV21⟩ : ∃ z, World.alloc V20 (.cells #[.slice ao hC.length co] 27) = z := ⟨_, rfl⟩
 have hsV21 : V21.heap.size = V20.heap.size + 1 := by rw [← hV21]; simp
 rw [hV21] at gw hb ⊢
 clear hV21
 obtain ⟨bo, hbb⟩ : ∃ b, V20.heap.size = b := ⟨_, rfl⟩
 rw [hbb] at hb hsV21 ⊢
 clear hbb
 replace Hc := Lib.hid (Hc.out.grown gw)
 replace Ha := Lib.hid (Ha.out.grown gw)
 replace Hb := Lib.hid (Hb.out.grown gw)
 replace Hd := Lib.hid (Hd.out.grown gw)
 replace Hu := Lib.hid (Hu.out.grown gw)
 replace He := Lib.hid (He.out.grown gw)
 replace Hi := Lib.hid (Hi.out.grown gw)
 replace Hf := Lib.hid (Hf.out.grown gw)
 replace Hg := Lib.hid (Hg.out.grown gw)
 replace Hh := Lib.hid (Hh.out.grown gw)
 replace Hj := Lib.hid (Hj.out.grown gw)
 replace HG := Lib.hid (gT HG.out gw)
 clear gw
 have Ho := Lib.hid hb
 clear hb
 clear hr hsV21
 have qc := Hc.out.1
 have qa := Ha.out.1
 have ra := Ha.out.2.1
 have qb := Hb.out.1
 have rb := Hb.out.2.1
 have qd := Hd.out.1
 have qu := Hu.out.1
 have ru := Hu.out.2.1
 have qe := He.out.1
 have qi := Hi.out.1
 have ri := Hi.out.2.1
 have qf := Hf.out.1
 have qg := Hg.out.1
 have qh := Hh.out.1
 have qj := Hj.out.1
 have rj := Hj.out.2.1
 have qo := Ho.out.1
 go_wp2_with fail
 clear qc qa ra qb rb qd qu ru qe qi ri qf qg qh qj rj qo
 refine (h_some_at Hc.out.2.2 Hb.out.2.2.2).mono ?_
 rintro e V22 ⟨az, cz, rfl, hr, g⟩
 replace Hc := Lib.hid (Hc.out.grown g)
 replace Ha := Lib.hid (Ha.out.grown g)
 replace Hb := Lib.hid (Hb.out.grown g)
 replace Hd := Lib.hid (Hd.out.grown g)
 replace Hu := Lib.hid (Hu.out.grown g)
 replace He := Lib.hid (He.out.grown g)
 replace Hi := Lib.hid (Hi.out.grown g)
 replace Hf := Lib.hid (Hf.out.grown g)
 replace Hg := Lib.hid (Hg.out.grown g)
 replace Hh := Lib.hid (Hh.out.grown g)
 replace Hj := Lib.hid (Hj.out.grown g)
 replace Ho := Lib.hid (Ho.out.grown g)
 replace HG := Lib.hid (gT HG.out g)
 clear g
 have qc := Hc.out.1
 have qa := Ha.out.1
 have ra := Ha.out.2.1
 have qb := Hb.out.1
 have rb := Hb.out.2.1
 have qd := Hd.out.1
 have qu := Hu.out.1
 have ru := Hu.out.2.1
 have qe := He.out.1
 have qi := Hi.out.1
 have ri := Hi.out.2.1
 have qf := Hf.out.1
 have qg := Hg.out.1
 have qh := Hh.out.1
 have qj := Hj.out.1
 have rj := Hj.out.2.1
 have qo := Ho.out.1
 go_upto_region 11 with fail
 clear qc qa ra qb rb qd qu ru qe qi ri qf qg qh qj rj qo
 have hb := CB.new hr
 have gw := gAl V22 (.cells #[.slice az hC.length cz] 27) none
 obtain ⟨V23, hV23⟩ : ∃ z, World.alloc V22 (.cells #[.slice az hC.length cz] 27) = z := ⟨_, rfl⟩
 have hsV23 : V23.heap.size = V22.heap.size + 1 := by rw [← hV23]; simp
 rw [hV23] at gw hb ⊢
 clear hV23
 obtain ⟨bz, hbb⟩ : ∃ b, V22.heap.size = b := ⟨_, rfl⟩
 rw [hbb] at hb hsV23 ⊢
 clear hbb
 replace Hc := Lib.hid (Hc.out.grown gw)
 replace Ha := Lib.hid (Ha.out.grown gw)
 replace Hb := Lib.hid (Hb.out.grown gw)
 replace Hd := Lib.hid (Hd.out.grown gw)
 replace Hu := Lib.hid (Hu.out.grown gw)
 replace He := Lib.hid (He.out.grown gw)
 replace Hi := Lib.hid (Hi.out.grown gw)
 replace Hf := Lib.hid (Hf.out.grown gw)
 replace Hg := Lib.hid (Hg.out.grown gw)
 replace Hh := Lib.hid (Hh.out.grown gw)
 replace Hj := Lib.hid (Hj.out.grown gw)
 replace Ho := Lib.hid (Ho.out.grown gw)
 replace HG := Lib.hid (gT HG.out gw)
 clear gw
 have Hz := Lib.hid hb
 clear hb
 clear hr hsV23
 have qc := Hc.out.1
 have qa := Ha.out.1
 have ra := Ha.out.2.1
 have qb := Hb.out.1
 have rb := Hb.out.2.1
 have qd := Hd.out.1
 have qu := Hu.out.1
 have ru := Hu.out.2.1
 have qe := He.out.1
 have qi := Hi.out.1
 have ri := Hi.out.2.1
 have qf := Hf.out.1
 have qg := Hg.out.1
 have qh := Hh.out.1
 have qj := Hj.out.1
 have rj := Hj.out.2.1
 have qo := Ho.out.1
 have qz := Hz.out.1
 go_wp2_with fail
 clear qc qa ra qb rb qd qu ru qe qi ri qf qg qh qj rj qo qz
 have hb := bools_lit1 V23 false
 have g := gAl V23 (.cells #[.bool false] 4) none
 obtain ⟨V24, hU⟩ : ∃ z, World.alloc V23 (.cells #[.bool false] 4) = z := ⟨_, rfl⟩
 rw [hU] at g hb ⊢
 clear hU
 obtain ⟨p3, hbb⟩ : ∃ b, V23.heap.size = b := ⟨_, rfl⟩
 rw [hbb] at hb ⊢
 clear hbb
 replace Hc := Lib.hid (Hc.out.grown g)
 replace Ha := Lib.hid (Ha.out.grown g)
 replace Hb := Lib.hid (Hb.out.grown g)
 replace Hd := Lib.hid (Hd.out.grown g)
 replace Hu := Lib.hid (Hu.out.grown g)
 replace He := Lib.hid (He.out.grown g)
 replace Hi := Lib.hid (Hi.out.grown g)
 replace Hf := Lib.hid (Hf.out.grown g)
 replace Hg := Lib.hid (Hg.out.grown g)
 replace Hh := Lib.hid (Hh.out.grown g)
 replace Hj := Lib.hid (Hj.out.grown g)
 replace Ho := Lib.hid (Ho.out.grown g)
 replace Hz := Lib.hid (Hz.out.grown g)
 replace HG := Lib.hid (gT HG.out g)
 clear g
 refine (h_value_at Hd.out.2.2 Hu.out.2.2.2 hb).mono ?_
 rintro e V25 ⟨ay, cy, rfl, hr, g⟩
 clear hb
 replace Hc := Lib.hid (Hc.out.grown g)
 replace Ha := Lib.hid (Ha.out.grown g)
 replace Hb := Lib.hid (Hb.out.grown g)
 replace Hd := Lib.hid (Hd.out.grown g)
 replace Hu := Lib.hid (Hu.out.grown g)
 replace He := Lib.hid (He.out.grown g)
 replace Hi := Lib.hid (Hi.out.grown g)
 replace Hf := Lib.hid (Hf.out.grown g)
 replace Hg := Lib.hid (Hg.out.grown g)
 replace Hh := Lib.hid (Hh.out.grown g)
 replace Hj := Lib.hid (Hj.out.grown g)
 replace Ho := Lib.hid (Ho.out.grown g)
 replace Hz := Lib.hid (Hz.out.grown g)
 replace HG := Lib.hid (gT HG.out g)
 clear g
 have qc := Hc.out.1
 have qa := Ha.out.1
 have ra := Ha.out.2.1
 have qb := Hb.out.1
 have rb := Hb.out.2.1
 have qd := Hd.out.1
 have qu := Hu.out.1
 have ru := Hu.out.2.1
 have qe := He.out.1
 have qi := Hi.out.1
 have ri := Hi.out.2.1
 have qf := Hf.out.1
 have qg := Hg.out.1
 have qh := Hh.out.1
 have qj := Hj.out.1
 have rj := Hj.out.2.1
 have qo := Ho.out.1
 have qz := Hz.out.1
 go_upto_region 12 with fail
 clear qc qa ra qb rb qd qu ru qe qi ri qf qg qh qj rj qo qz
 have hb := YB.new (n := 3) 1 hr rfl
 have gw := gAl V25 (.cells #[.int .i64 1, .slice ay 3 cy] 40) none
 obtain ⟨V26, hV26⟩ : ∃ z, World.alloc V25 (.cells #[.int .i64 1, .slice ay 3 cy] 40) = z := ⟨_, rfl⟩
 have hsV26 : V26.heap.size = V25.heap.size + 1 := by rw [← hV26]; simp
 rw [hV26] at gw hb ⊢
 clear hV26
 obtain ⟨by1, hbb⟩ : ∃ b, V25.heap.size = b := ⟨_, rfl⟩
 rw [hbb] at hb hsV26 ⊢
 clear hbb
 replace Hc := Lib.hid (Hc.out.grown gw)
 replace Ha := Lib.hid (Ha.out.grown gw)
 replace Hb := Lib.hid (Hb.out.grown gw)
 replace Hd := Lib.hid (Hd.out.grown gw)
 replace Hu := Lib.hid (Hu.out.grown gw)
 replace He := Lib.hid (He.out.grown gw)
 replace Hi := Lib.hid (Hi.out.grown gw)
 replace Hf := Lib.hid (Hf.out.grown gw)
 replace Hg := Lib.hid (Hg.out.grown gw)
 replace Hh := Lib.hid (Hh.out.grown gw)
 replace Hj := Lib.hid (Hj.out.grown gw)
 replace Ho := Lib.hid (Ho.out.grown gw)
 replace Hz := Lib.hid (Hz.out.grown gw)
 replace HG := Lib.hid (gT HG.out gw)
 clear gw
 have Hy := Lib.hid hb
 clear hb
 clear hr hsV26
 refine hd12_all (fun c a d v w h => by cases d <;> exact h) Hc Hd He Hf Hg Hh Hb Hu Hi Hj Hy ?_
 intro _ _ _ _ _ _ _ _ _ _ _ _ _ _ _ _ _ _ _ _ _ _ _ _ _ _ _ _ _ _ _ _ _ _ _ _ _ _ _ _ _ _ _ _ _ _ _ _ _ _ _ _ _ _ _ _ _ _ _ _ _ _ _ _ _ _ _ _ _ _ _ _ _ _ _ _ _ _ _ _ _ _ _ _ _ _ _ _ _ _ _ _ _ _ _ _ _ _ _ _ _ _ _ _ _ _ _ _ _ _ _ _ _ _ _ _ _ _ _ _ _ _ _ _ _ _ _ _ _ _ _ _ _ _ _ _ _ _ _ _ _ _ _ _ _ _ _ _ _ _ _ _ _ _ _ _ _ _ _ _ _ _ _ _ _ _ _ _ _ _ _ _ _ _ _ W hEND
 go_wp2_with fail
 go_ret
 exact ⟨rfl, gT HG.out hEND⟩
end Go.Proofs.YthdhmflodiincaaGreat
namespace Go.Proofs.YthdhmflodiincaaGreat
open Go.RowKit

def CF (w : World) (b : Nat) (a : Option Addr) (n c : Nat) : Prop := w.cell? ⟨b, 0, none⟩ = some (.slice a n c) ∧ w.frozen? ⟨b, 0, none⟩ = false
def MF (w : World) (b : Nat) (ar : Int) (a : Option Addr) (n c : Nat) : Prop := w.cell? ⟨b, 0, none⟩ = some (.int .i64 ar) ∧ w.cell? ⟨b, 1, none⟩ = some (.slice a n c) ∧ w.frozen? ⟨b, 0, none⟩ = false ∧ w.frozen? ⟨b, 1, none⟩ = false
section
variable {w w' : World} {b b' : Nat} {a a' : Option Addr} {n c n' c' : Nat} {ar : Int} {g : List Gt} {m : List Cl}
theorem CF.grown (h : CF w b a n c) (hg : w.grownBy w' none) : CF w' b a n c := ⟨hg.cell h.1 (by simp), (grown_frozen hg (lies_lt h.1) 0).trans h.2⟩
theorem MF.grown (h : MF w b ar a n c) (hg : w.grownBy w' none) : MF w' b ar a n c := ⟨hg.cell h.1 (by simp), hg.cell h.2.1 (by simp), (grown_frozen hg (lies_lt h.1) 0).trans h.2.2.1, (grown_frozen hg (lies_lt h.1) 1).trans h.2.2.2⟩
theorem CF.new (w : World) (a : Option Addr) (n c : Nat) : CF (w.alloc (.cells #[.slice a n c] 27)) w.heap.size a n c := (one_cell w _ 27).2
theorem MF.new (w : World) (ar : Int) (a : Option Addr) (n c : Nat) : MF (w.alloc (.cells #[.int .i64 ar, .slice a n c] 35)) w.heap.size ar a n c := ⟨by go_simp, by go_simp, by go_simp, by go_simp⟩
theorem CF.neI (h : CF w b a n c) {A : Addr} {x : Int} (hA : w.cell? A = some (.int .i64 x)) : (⟨b, 0, none⟩ : Addr) ≠ A := fun e => by rw [← e, h.1] at hA; cases hA
theorem CF.put (h : CF w b a n c) (a' : Option Addr) (n' c' : Nat) : CF (w.setCell ⟨b, 0, none⟩ (.slice a' n' c')) b a' n' c' := ⟨World.cell?_setCell_same _ _ _ h.1, by rw [World.frozen?_setCell]; exact h.2⟩
theorem CF.cf (_h : CF w b a n c) (v : Value) (h' : CF w b' a' n' c') (hne : b ≠ b') : CF (w.setCell ⟨b, 0, none⟩ v) b' a' n' c' :=
 ⟨(World.cell?_setCell_other _ _ _ _ (fun e => hne (by injection e))).trans h'.1, by rw [World.frozen?_setCell]; exact h'.2⟩
theorem CF.mf (h : CF w b a n c) (v : Value) (h' : MF w b' ar a' n' c') : MF (w.setCell ⟨b, 0, none⟩ v) b' ar a' n' c' :=
 ⟨(World.cell?_setCell_other _ _ _ _ (h.neI h'.1)).trans h'.1, (World.cell?_setCell_other _ _ _ _ (fun e => by injection e with _ e2; cases e2)).trans h'.2.1, by rw [World.frozen?_setCell]; exact h'.2.2.1, by rw [World.frozen?_setCell]; exact h'.2.2.2⟩
theorem CF.gates (h : CF w b a n c) (v : Value) (h' : GatesW w a' c' g) : GatesW (w.setCell ⟨b, 0, none⟩ v) a' c' g := h'.set h.1 v
theorem CF.cells (h : CF w b a n c) (v : Value) (h' : CellsW w a' c' m) : CellsW (w.setCell ⟨b, 0, none⟩ v) a' c' m := by
 obtain ⟨hc, h' | ⟨k, o, ha, hh⟩⟩ := h'
 · exact ⟨hc, .inl h'⟩
 · exact ⟨hc, .inr ⟨k, o, ha, fun j z hj => ⟨(World.cell?_setCell_other _ _ _ _ (h.neI (hh j z hj).1)).trans (hh j z hj).1, (World.cell?_setCell_other _ _ _ _ (h.neI (hh j z hj).2)).trans (hh j z hj).2⟩⟩⟩
theorem CF.grows {w0 : World} (hg : w0.grownBy w none) (hb : w0.heap.size ≤ b) (v : Value) : w0.grownBy (w.setCell ⟨b, 0, none⟩ v) none := grown_own hg (grown_set w b 0 v) (fun k e => by cases e; exact hb)
theorem MF.pair (h : MF w b ar a n c) (u v : Value) {k o : Nat} {x y : Int} (hx : w.cell? ⟨k, o, none⟩ = some (.int .i64 x)) (hy : w.cell? ⟨k, o + 1, none⟩ = some (.int .i64 y)) : (laidX w b u v).cell? ⟨k, o, none⟩ = some (.int .i64 x) ∧ (laidX w b u v).cell? ⟨k, o + 1, none⟩ = some (.int .i64 y) := by
 have n1 : ∀ {A : Addr} {z : Int}, w.cell? A = some (.int .i64 z) → (⟨b, 1, none⟩ : Addr) ≠ A := fun hA e => by rw [← e, h.2.1] at hA; cases hA
 have n0 : (⟨b, 0, none⟩ : Addr) ≠ ⟨k, o, none⟩ := fun e => by
  injection e with e1 e2
  subst e1; subst e2
  exact n1 hy rfl
 have n2 : (⟨b, 0, none⟩ : Addr) ≠ ⟨k, o + 1, none⟩ := fun e => by
  injection e with e1 e2
  omega
 exact ⟨(laidX_other n0 (n1 hx)).trans hx, (laidX_other n2 (n1 hy)).trans hy⟩
theorem MF.cells (h : MF w b ar a n c) (u v : Value) (h' : CellsW w a' c' m) : CellsW (laidX w b u v) a' c' m := by
 obtain ⟨hc, h' | ⟨k, o, ha, hh⟩⟩ := h'
 · exact ⟨hc, .inl h'⟩
 · exact ⟨hc, .inr ⟨k, o, ha, fun j z hj => h.pair u v (hh j z hj).1 (hh j z hj).2⟩⟩
theorem MF.gates (h : MF w b ar a n c) (u v : Value) (h' : GatesW w a' c' g) : GatesW (laidX w b u v) a' c' g := by
 obtain ⟨hc, h' | ⟨k, o, ha, ht, hh⟩⟩ := h'
 · exact ⟨hc, .inl h'⟩
 · exact ⟨hc, .inr ⟨k, o, ha, (ht.setAt b 0 u).setAt b 1 v, fun j z hj => ⟨(h.pair u v (hh j z hj).1 (hh j z hj).2.1).1, (h.pair u v (hh j z hj).1 (hh j z hj).2.1).2, (h.pair u v (hh j z hj).2.1 (hh j z hj).2.2).2⟩⟩⟩
theorem MF.cf (h : MF w b ar a n c) (u v : Value) (h' : CF w b' a' n' c') : CF (laidX w b u v) b' a' n' c' := by
 have n0 : (⟨b, 0, none⟩ : Addr) ≠ ⟨b', 0, none⟩ := fun e => by have h1 := h'.1; rw [← e, h.1] at h1; cases h1
 have n1 : (⟨b, 1, none⟩ : Addr) ≠ ⟨b', 0, none⟩ := fun e => by injection e with e1 e2; omega
 refine ⟨(laidX_other n0 n1).trans h'.1, ?_⟩
 unfold laidX
 rw [World.frozen?_setCell, World.frozen?_setCell]; exact h'.2
theorem MF.mf {ar' : Int} (_h : MF w b ar a n c) (u v : Value) (h' : MF w b' ar' a' n' c') (hne : b ≠ b') : MF (laidX w b u v) b' ar' a' n' c' := by
 have ne : ∀ i j : Nat, (⟨b, i, none⟩ : Addr) ≠ ⟨b', j, none⟩ := fun i j e => hne (by injection e)
 refine ⟨(laidX_other (ne 0 0) (ne 1 0)).trans h'.1, (laidX_other (ne 0 1) (ne 1 1)).trans h'.2.1, ?_, ?_⟩
 · unfold laidX; rw [World.frozen?_setCell, World.frozen?_setCell]; exact h'.2.2.1
 · unfold laidX; rw [World.frozen?_setCell, World.frozen?_setCell]; exact h'.2.2.2
theorem MF.put (h : MF w b ar a n c) (ar' : Int) (a' : Option Addr) (n' c' : Nat) : MF (laidX w b (.int .i64 ar') (.slice a' n' c')) b ar' a' n' c' := by
 refine ⟨?_, ?_, ?_, ?_⟩
 ·
  unfold laidX
  rw [World.cell?_setCell_other _ _ _ _ (by simp)]
  exact World.cell?_setCell_same _ _ _ h.1
 ·
  unfold laidX
  exact World.cell?_setCell_same _ _ _ ((World.cell?_setCell_other _ _ _ _ (by simp)).trans h.2.1)
 · unfold laidX; rw [World.frozen?_setCell, World.frozen?_setCell]; exact h.2.2.1
 · unfold laidX; rw [World.frozen?_setCell, World.frozen?_setCell]; exact h.2.2.2
theorem MF.grows {w0 : World} (hg : w0.grownBy w none) (hb : w0.heap.size ≤ b) (u v : Value) : w0.grownBy (laidX w b u v) none := XZ.grows hg hb u v
end
end Go.Proofs.YthdhmflodiincaaGreat
namespace Go.Proofs.YthdhmflodiincaaGreat
open Go.RowKit Go.Maps

def TF (w : World) (b : Nat) (r : Nat) (fv : Value) : Prop := w.cell? ⟨b, 0, none⟩ = some (.int .i64 (r : Int)) ∧ w.cell? ⟨b, 1, none⟩ = some fv
theorem TF.grown {w w' : World} {b r : Nat} {fv : Value} (h : TF w b r fv) (hg : w.grownBy w' none) : TF w' b r fv := ⟨hg.cell h.1 (by simp), hg.cell h.2 (by simp)⟩
section
variable {Q : Exit → Act → World → Prop} {V W : World} {b0 b1 b2 b3 b4 nm : Nat} {m : List Cl} {ma : Option Addr} {mc : Nat} {L : Array Bool} {t : Nat → Value}
end

def NF (w : World) (b : Nat) (n : Nat) : Prop := w.cell? ⟨b, 0, none⟩ = some (.int .i64 (n : Int))
theorem NF.grown {w w' : World} {b n : Nat} (h : NF w b n) (hg : w.grownBy w' none) : NF w' b n := hg.cell h (by simp)

section
variable {w w' : World} {b p k : Nat} {T : Int → Bool} {t : Int → Int} {a : Option Addr} {n c : Nat} {ar : Int} {g : List Gt} {m : List Cl}
theorem MapT.ne (h : MapT w b k T t) {A : Addr} {v : Value} (hA : w.cell? A = some v) (hs : A.spot = none) : A.block ≠ b := fun e => by
 obtain ⟨x, o, s⟩ := A
 simp only at hs e
 subst hs; subst e
 exact h.not_cells hA
theorem MapT.cell (h : MapT w b k T t) (hg : w.grownBy w' (some b)) {x o : Nat} {v : Value} (hA : w.cell? ⟨x, o, none⟩ = some v) : w'.cell? ⟨x, o, none⟩ = some v :=
 hg.cell hA (fun e => h.ne hA rfl (by injection e))
theorem MapT.fr (h : MapT w b k T t) (hg : w.grownBy w' (some b)) {x o o' : Nat} {v : Value} (hA : w.cell? ⟨x, o, none⟩ = some v) : w'.frozen? ⟨x, o', none⟩ = w.frozen? ⟨x, o', none⟩ :=
 World.frozen?_of_block (a := ⟨x, o', none⟩) (hg.block x (lies_lt hA) (fun e => h.ne hA rfl (by injection e)))
theorem MapT.cf (h : MapT w b k T t) (hg : w.grownBy w' (some b)) (h' : CF w p a n c) : CF w' p a n c := ⟨h.cell hg h'.1, (h.fr hg h'.1).trans h'.2⟩
theorem MapT.mf (h : MapT w b k T t) (hg : w.grownBy w' (some b)) (h' : MF w p ar a n c) : MF w' p ar a n c := ⟨h.cell hg h'.1, h.cell hg h'.2.1, (h.fr hg h'.1).trans h'.2.2.1, (h.fr hg h'.1).trans h'.2.2.2⟩
theorem MapT.cells (h : MapT w b k T t) (hg : w.grownBy w' (some b)) (h' : CellsW w a c m) : CellsW w' a c m := by
 obtain ⟨hc, h' | ⟨x, o, ha, hh⟩⟩ := h'
 · exact ⟨hc, .inl h'⟩
 · exact ⟨hc, .inr ⟨x, o, ha, fun j z hj => ⟨h.cell hg (hh j z hj).1, h.cell hg (hh j z hj).2⟩⟩⟩
theorem MapT.gates (h : MapT w b k T t) (hg : w.grownBy w' (some b)) (h' : GatesW w a c g) : GatesW w' a c g := by
 obtain ⟨hc, h' | ⟨x, o, ha, ht, hh⟩⟩ := h'
 · exact ⟨hc, .inl h'⟩
 ·
  cases g with
  | nil => exact ⟨hc, .inl rfl⟩
  | cons z l =>
   have h0 := (hh 0 z rfl).1
   exact ⟨hc, .inr ⟨x, o, ha, ht.grown hg (fun e => h.ne h0 rfl (by injection e)), fun j z hj => ⟨h.cell hg (hh j z hj).1, h.cell hg (hh j z hj).2.1, h.cell hg (hh j z hj).2.2⟩⟩⟩
theorem MapT.grown (h : MapT w b k T t) (hg : w.grownBy w' none) : MapT w' b k T t := h.kept hg (by simp)
end
end Go.Proofs.YthdhmflodiincaaGreat
