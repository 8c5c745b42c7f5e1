/- The examples of the law, walked. -/
import Derived.Test.YthagoihpppppkaaS2
import Derived.Deep.DeepCutAuto
namespace Go.Proofs.Ythagoihpppppkaa
open Go.RowKit Go.Maps

set_option maxRecDepth 100000 in
set_option maxHeartbeats 4000000 in
theorem head_calls (w : World) : Calls Try.prog 10 #[] w fun e w' => e = .returned (.bool true) ∧ w.grownBy w' none := by
  obtain ⟨rS, eS⟩ : ∃ r, (sorterP [2, 4]).run dG = r := ⟨_, rfl⟩
  obtain ⟨gS, lS⟩ := rS
  obtain ⟨rT, eT⟩ : ∃ r, (totalP 6 [4, 2]).run dG = r := ⟨_, rfl⟩
  obtain ⟨gT, lT⟩ := rT
  obtain ⟨rK, eK⟩ : ∃ r, (atlP [2, 4] 2).run dG = r := ⟨_, rfl⟩
  obtain ⟨gK, lK⟩ := rK
  obtain ⟨rN, eN⟩ : ∃ r, (sorterP []).run dG = r := ⟨_, rfl⟩
  obtain ⟨gN, lN⟩ := rN
  obtain ⟨rG, eG⟩ : ∃ r, (lessP [] [] 1).run dG = r := ⟨_, rfl⟩
  obtain ⟨gG, lG⟩ := rG
  obtain ⟨rM, eM⟩ : ∃ r, (lessP [] [] 0).run dG = r := ⟨_, rfl⟩
  obtain ⟨gM, lM⟩ := rM
  obtain ⟨rH, eH⟩ : ∃ r, (addP [2] [4]).run dG = r := ⟨_, rfl⟩
  obtain ⟨gH, lH⟩ := rH
  obtain ⟨rA, eA⟩ : ∃ r, (atlP [2, 4] 0).run dG = r := ⟨_, rfl⟩
  obtain ⟨gA, lA⟩ := rA
  obtain ⟨rB, eB⟩ : ∃ r, (atlP [2, 4] 3).run dG = r := ⟨_, rfl⟩
  obtain ⟨gB, lB⟩ := rB
  have hS := hd_s
  rw [eS] at hS
  have hT := hd_t
  rw [eT] at hT
  have hK := hd_k
  rw [eK] at hK
  have hGG := hd_g
  rw [eG] at hGG
  have hM := hd_m
  rw [eM] at hM
  have hH := hd_h
  rw [eH] at hH
  have hA := hd_a
  rw [eA, eB] at hA
  simp only at hS hT hK hGG hM hH hA
  have hR := hd_le
  rw [eK, eG, eM] at hR
  simp only at hR
  have HLK := Lib.hid hR
  clear hR
  have HF := Lib.hid (And.intro hS (And.intro hT (And.intro hK (And.intro hGG (And.intro hM (And.intro hH hA))))))
  have BS := hd_small (sorterP [2, 4]) (Pr.most_mono _ (by omega) (most_sorterP _))
  rw [eS] at BS
  have BT : gT.length ≤ 300 ∧ Good gT := by
    have h := Pr.safe_run _ (safe_totalP 6 [4, 2] good_d ok_42 (by decide) (by decide +kernel))
    rw [eT] at h
    have h1 := h.1.len
    have h2 : costT 6 [4, 2].length ≤ 100 := by decide +kernel
    have h3 : dG.length = 3 := rfl
    simp only at h1
    exact ⟨by omega, h.1.good⟩
  have BK : gK.length ≤ 300 ∧ Good gK := by
    have h := hd_small2 (atlP [2, 4] 2) (by unfold atlP; rw [if_neg (by decide)]; exact Pr.most_mono _ (by omega) (Pr.most_bind (n := 0) (f := fun t => Pr.ret (reachL t 2)) (fun _ => trivial) _ (most_sorterP _)))
    rw [eK] at h
    exact h
  have BG : gG.length ≤ 300 ∧ Good gG := by
    have h := hd_small2 (lessP [] [] 1) (Pr.most_mono _ (by decide) (most_lessP [] [] 1))
    rw [eG] at h
    exact h
  have BH : gH.length ≤ 300 ∧ Good gH := by
    have h := hd_small (addP [2] [4]) (Pr.most_mono _ (by decide) (most_addP [2] [4]))
    rw [eH] at h
    exact h
  have LS : ∀ r ∈ lS, Ok gS r := by have h := (sorter_len good_d (by decide) ok_24).2.1; rw [eS] at h; exact h
  have LT : ∀ r ∈ lT, Ok gT r := by have h := (Pr.safe_run _ (safe_totalP 6 [4, 2] good_d ok_42 (by decide) (by decide +kernel))).2.1; rw [eT] at h; exact h
  have LH : ∀ r ∈ lH, Ok gH r := by have h := (Pr.safe_run _ (safe_addP good_d ok_2 ok_4 (by decide +kernel))).2.1; rw [eH] at h; exact h
  have NS : lS.length = 2 := by have h := (sorter_len good_d (by decide) ok_24).2.2; rw [eS] at h; exact h
  have NT : lT.length = 2 := by have h := (Pr.safe_run _ (safe_totalP 6 [4, 2] good_d ok_42 (by decide) (by decide +kernel))).2.2.1; rw [eT] at h; exact h
  have NH : lH.length = 2 := by have h := (Pr.safe_run _ (safe_addP good_d ok_2 ok_4 (by decide +kernel))).2.2.1; rw [eH] at h; exact h
  have BX := Lib.hid (And.intro BS (And.intro BT (And.intro BK (And.intro BG BH))))
  have LX := Lib.hid (And.intro LS (And.intro LT LH))
  have NX := Lib.hid (And.intro NS (And.intro NT NH))
  have EX := Lib.hid (And.intro eS (And.intro eT (And.intro eK (And.intro eN (And.intro eG (And.intro eM (And.intro eH (And.intro eA eB))))))))
  have HG := Lib.hid (grown_refl w none)
  have DL := Lib.hid (show dG.length = 3 from rfl)
  clear hS hT hK hGG hM hH hA BS BT BK BG BH LS LT LH NS NT NH eS eT eK eN eG eM eH eA eB
  go_enter Try.func10, Try.ntmps10
  go_wp2_with fail
  refine (rnew_calls _).mono ?_
  rintro e V1 ⟨y0, rfl, ⟨a0, c0, rfl, hr0⟩, g⟩
  replace HG := Lib.hid (World.grownBy.trans HG.out g)
  clear g
  go_wp2_with fail
  refine (rinput_at (gs := [(0, 0, 0)]) 1 c1_in good_new (by decide) hr0).mono ?_
  rintro e V2 ⟨a2, c2, rfl, hr, g⟩
  replace HG := Lib.hid (World.grownBy.trans HG.out g)
  clear g
  clear hr0
  go_upto_region 2 with fail
  have hb := CB.new hr
  have g := World.grownBy_alloc V2 (.cells #[.slice a2 c1G.length c2] 32) none
  obtain ⟨V3, hV3⟩ : ∃ z, World.alloc V2 (.cells #[.slice a2 c1G.length c2] 32) = z := ⟨_, rfl⟩
  rw [hV3] at g hb ⊢
  clear hV3 hr
  obtain ⟨bc, hbb⟩ : ∃ b, V2.heap.size = b := ⟨_, rfl⟩
  rw [hbb] at hb ⊢
  clear hbb
  replace HG := Lib.hid (World.grownBy.trans HG.out g)
  clear g
  have Hc := Lib.hid hb
  clear hb
  have qc := Hc.out.1
  go_wp2_with fail
  clear qc
  refine (rinput_at 2 d_in good_c1 (by decide) Hc.out.2.2).mono ?_
  rintro e V4 ⟨a4, c4, rfl, hr, g⟩
  replace Hc := Lib.hid (Hc.out.grown g)
  replace HG := Lib.hid (World.grownBy.trans HG.out g)
  clear g
  have qc := Hc.out.1
  go_upto_region 3 with fail
  clear qc
  have hb := CB.new hr
  have g := World.grownBy_alloc V4 (.cells #[.slice a4 dG.length c4] 32) none
  obtain ⟨V5, hV5⟩ : ∃ z, World.alloc V4 (.cells #[.slice a4 dG.length c4] 32) = z := ⟨_, rfl⟩
  rw [hV5] at g hb ⊢
  clear hV5 hr
  obtain ⟨bd, hbb⟩ : ∃ b, V4.heap.size = b := ⟨_, rfl⟩
  rw [hbb] at hb ⊢
  clear hbb
  replace Hc := Lib.hid (Hc.out.grown g)
  replace HG := Lib.hid (World.grownBy.trans HG.out g)
  clear g
  have Hd := Lib.hid hb
  clear hb
  have qc := Hc.out.1
  have qd := Hd.out.1
  go_wp2_with fail
  clear qc qd
  have g := World.grownBy_alloc V5 (.cells #[.int .i64 2, .int .i64 4] 3) none
  have hrw := ints_two V5 (2) (4)
  obtain ⟨V6, hV6⟩ : ∃ z, World.alloc V5 (.cells #[.int .i64 2, .int .i64 4] 3) = z := ⟨_, rfl⟩
  rw [hV6] at g hrw  ⊢
  clear hV6
  obtain ⟨p6, hp6⟩ : ∃ b, V5.heap.size = b := ⟨_, rfl⟩
  rw [hp6] at hrw  ⊢
  clear hp6
  replace Hc := Lib.hid (Hc.out.grown g)
  replace Hd := Lib.hid (Hd.out.grown g)
  replace HG := Lib.hid (World.grownBy.trans HG.out g)
  clear g
  have Rr3 := Lib.hid hrw
  clear hrw
  refine (sorter_n (l := [2, 4]) rfl EX.out.1 good_d (by decide) ok_24 (by decide) Hd.out.2.2 Rr3.out).mono ?_
  rintro e V7 ⟨a7, c7, b7, d7, rfl, hr, hrow, g⟩
  replace Hc := Lib.hid (Hc.out.grown g)
  replace Hd := Lib.hid (Hd.out.grown g)
  replace Rr3 := Lib.hid (Rr3.out.grown g)
  replace HG := Lib.hid (World.grownBy.trans HG.out g)
  clear g
  have RS := Lib.hid hrow
  clear hrow
  have qc := Hc.out.1
  have qd := Hd.out.1
  go_upto_region 4 with fail
  clear qc qd
  have hb := CB.new hr
  have g := World.grownBy_alloc V7 (.cells #[.slice a7 gS.length c7] 32) none
  obtain ⟨V8, hV8⟩ : ∃ z, World.alloc V7 (.cells #[.slice a7 gS.length c7] 32) = z := ⟨_, rfl⟩
  rw [hV8] at g hb ⊢
  clear hV8 hr
  obtain ⟨bS, hbb⟩ : ∃ b, V7.heap.size = b := ⟨_, rfl⟩
  rw [hbb] at hb ⊢
  clear hbb
  replace Hc := Lib.hid (Hc.out.grown g)
  replace Hd := Lib.hid (Hd.out.grown g)
  replace Rr3 := Lib.hid (Rr3.out.grown g)
  replace RS := Lib.hid (RS.out.grown g)
  replace HG := Lib.hid (World.grownBy.trans HG.out g)
  clear g
  have HS := Lib.hid hb
  clear hb
  have qc := Hc.out.1
  have qd := Hd.out.1
  have qS := HS.out.1
  go_wp2_with fail
  clear qc qd qS
  have g := World.grownBy_alloc V8 (.cells #[.int .i64 4, .int .i64 2] 3) none
  have hrw := ints_two V8 (4) (2)
  obtain ⟨V9, hV9⟩ : ∃ z, World.alloc V8 (.cells #[.int .i64 4, .int .i64 2] 3) = z := ⟨_, rfl⟩
  rw [hV9] at g hrw  ⊢
  clear hV9
  obtain ⟨p9, hp9⟩ : ∃ b, V8.heap.size = b := ⟨_, rfl⟩
  rw [hp9] at hrw  ⊢
  clear hp9
  replace Hc := Lib.hid (Hc.out.grown g)
  replace Hd := Lib.hid (Hd.out.grown g)
  replace HS := Lib.hid (HS.out.grown g)
  replace Rr3 := Lib.hid (Rr3.out.grown g)
  replace RS := Lib.hid (RS.out.grown g)
  replace HG := Lib.hid (World.grownBy.trans HG.out g)
  clear g
  have Rr4 := Lib.hid hrw
  clear hrw
  refine (totalizer_n (l := [4, 2]) rfl EX.out.2.1 good_d ok_42 (by decide) (by decide +kernel) Hd.out.2.2 Rr4.out).mono ?_
  rintro e V10 ⟨a10, c10, b10, d10, rfl, hr, hrow, g⟩
  replace Hc := Lib.hid (Hc.out.grown g)
  replace Hd := Lib.hid (Hd.out.grown g)
  replace HS := Lib.hid (HS.out.grown g)
  replace Rr3 := Lib.hid (Rr3.out.grown g)
  replace RS := Lib.hid (RS.out.grown g)
  replace Rr4 := Lib.hid (Rr4.out.grown g)
  replace HG := Lib.hid (World.grownBy.trans HG.out g)
  clear g
  have RT := Lib.hid hrow
  clear hrow
  have qc := Hc.out.1
  have qd := Hd.out.1
  have qS := HS.out.1
  go_upto_region 5 with fail
  clear qc qd qS
  have hb := CB.new hr
  have g := World.grownBy_alloc V10 (.cells #[.slice a10 gT.length c10] 32) none
  obtain ⟨V11, hV11⟩ : ∃ z, World.alloc V10 (.cells #[.slice a10 gT.length c10] 32) = z := ⟨_, rfl⟩
  rw [hV11] at g hb ⊢
  clear hV11 hr
  obtain ⟨bT, hbb⟩ : ∃ b, V10.heap.size = b := ⟨_, rfl⟩
  rw [hbb] at hb ⊢
  clear hbb
  replace Hc := Lib.hid (Hc.out.grown g)
  replace Hd := Lib.hid (Hd.out.grown g)
  replace HS := Lib.hid (HS.out.grown g)
  replace Rr3 := Lib.hid (Rr3.out.grown g)
  replace RS := Lib.hid (RS.out.grown g)
  replace Rr4 := Lib.hid (Rr4.out.grown g)
  replace RT := Lib.hid (RT.out.grown g)
  replace HG := Lib.hid (World.grownBy.trans HG.out g)
  clear g
  have HT := Lib.hid hb
  clear hb
  have qc := Hc.out.1
  have qd := Hd.out.1
  have qS := HS.out.1
  have qT := HT.out.1
  go_wp2_with fail
  clear qc qd qS qT
  have g := World.grownBy_alloc V11 (.cells #[.int .i64 2, .int .i64 4] 3) none
  have hrw := ints_two V11 (2) (4)
  obtain ⟨V12, hV12⟩ : ∃ z, World.alloc V11 (.cells #[.int .i64 2, .int .i64 4] 3) = z := ⟨_, rfl⟩
  rw [hV12] at g hrw  ⊢
  clear hV12
  obtain ⟨p12, hp12⟩ : ∃ b, V11.heap.size = b := ⟨_, rfl⟩
  rw [hp12] at hrw  ⊢
  clear hp12
  replace Hc := Lib.hid (Hc.out.grown g)
  replace Hd := Lib.hid (Hd.out.grown g)
  replace HS := Lib.hid (HS.out.grown g)
  replace HT := Lib.hid (HT.out.grown g)
  replace Rr3 := Lib.hid (Rr3.out.grown g)
  replace RS := Lib.hid (RS.out.grown g)
  replace Rr4 := Lib.hid (Rr4.out.grown g)
  replace RT := Lib.hid (RT.out.grown g)
  replace HG := Lib.hid (World.grownBy.trans HG.out g)
  clear g
  have Rr5 := Lib.hid hrw
  clear hrw
  refine (atleast_n (l := [2, 4]) rfl EX.out.2.2.1 good_d (by decide) ok_24 (by decide) Hd.out.2.2 Rr5.out).mono ?_
  rintro e V13 ⟨a13, c13, rfl, hr, g⟩
  replace Hc := Lib.hid (Hc.out.grown g)
  replace Hd := Lib.hid (Hd.out.grown g)
  replace HS := Lib.hid (HS.out.grown g)
  replace HT := Lib.hid (HT.out.grown g)
  replace Rr3 := Lib.hid (Rr3.out.grown g)
  replace RS := Lib.hid (RS.out.grown g)
  replace Rr4 := Lib.hid (Rr4.out.grown g)
  replace RT := Lib.hid (RT.out.grown g)
  replace Rr5 := Lib.hid (Rr5.out.grown g)
  replace HG := Lib.hid (World.grownBy.trans HG.out g)
  clear g
  have qc := Hc.out.1
  have qd := Hd.out.1
  have qS := HS.out.1
  have qT := HT.out.1
  go_upto_region 6 with fail
  clear qc qd qS qT
  have hb := CB.new hr
  have g := World.grownBy_alloc V13 (.cells #[.slice a13 gK.length c13] 32) none
  obtain ⟨V14, hV14⟩ : ∃ z, World.alloc V13 (.cells #[.slice a13 gK.length c13] 32) = z := ⟨_, rfl⟩
  rw [hV14] at g hb ⊢
  clear hV14 hr
  obtain ⟨bK, hbb⟩ : ∃ b, V13.heap.size = b := ⟨_, rfl⟩
  rw [hbb] at hb ⊢
  clear hbb
  replace Hc := Lib.hid (Hc.out.grown g)
  replace Hd := Lib.hid (Hd.out.grown g)
  replace HS := Lib.hid (HS.out.grown g)
  replace HT := Lib.hid (HT.out.grown g)
  replace Rr3 := Lib.hid (Rr3.out.grown g)
  replace RS := Lib.hid (RS.out.grown g)
  replace Rr4 := Lib.hid (Rr4.out.grown g)
  replace RT := Lib.hid (RT.out.grown g)
  replace Rr5 := Lib.hid (Rr5.out.grown g)
  replace HG := Lib.hid (World.grownBy.trans HG.out g)
  clear g
  have HK := Lib.hid hb
  clear hb
  have qc := Hc.out.1
  have qd := Hd.out.1
  have qS := HS.out.1
  have qT := HT.out.1
  have qK := HK.out.1
  go_wp2_with fail
  clear qc qd qS qT qK
  refine (sorter_n (l := []) rfl EX.out.2.2.2.1 good_d (by decide) (by simp) (by decide) Hd.out.2.2 (intsW_nil _ none 0)).mono ?_
  rintro e V15 ⟨a15, c15, b15, d15, rfl, hr, hrow, g⟩
  replace Hc := Lib.hid (Hc.out.grown g)
  replace Hd := Lib.hid (Hd.out.grown g)
  replace HS := Lib.hid (HS.out.grown g)
  replace HT := Lib.hid (HT.out.grown g)
  replace HK := Lib.hid (HK.out.grown g)
  replace Rr3 := Lib.hid (Rr3.out.grown g)
  replace RS := Lib.hid (RS.out.grown g)
  replace Rr4 := Lib.hid (Rr4.out.grown g)
  replace RT := Lib.hid (RT.out.grown g)
  replace Rr5 := Lib.hid (Rr5.out.grown g)
  replace HG := Lib.hid (World.grownBy.trans HG.out g)
  clear g
  have RN := Lib.hid hrow
  clear hrow
  have qc := Hc.out.1
  have qd := Hd.out.1
  have qS := HS.out.1
  have qT := HT.out.1
  have qK := HK.out.1
  go_upto_region 7 with fail
  clear qc qd qS qT qK
  have hb := CB.new hr
  have g := World.grownBy_alloc V15 (.cells #[.slice a15 gN.length c15] 32) none
  obtain ⟨V16, hV16⟩ : ∃ z, World.alloc V15 (.cells #[.slice a15 gN.length c15] 32) = z := ⟨_, rfl⟩
  rw [hV16] at g hb ⊢
  clear hV16 hr
  obtain ⟨bN, hbb⟩ : ∃ b, V15.heap.size = b := ⟨_, rfl⟩
  rw [hbb] at hb ⊢
  clear hbb
  replace Hc := Lib.hid (Hc.out.grown g)
  replace Hd := Lib.hid (Hd.out.grown g)
  replace HS := Lib.hid (HS.out.grown g)
  replace HT := Lib.hid (HT.out.grown g)
  replace HK := Lib.hid (HK.out.grown g)
  replace Rr3 := Lib.hid (Rr3.out.grown g)
  replace RS := Lib.hid (RS.out.grown g)
  replace Rr4 := Lib.hid (Rr4.out.grown g)
  replace RT := Lib.hid (RT.out.grown g)
  replace Rr5 := Lib.hid (Rr5.out.grown g)
  replace RN := Lib.hid (RN.out.grown g)
  replace HG := Lib.hid (World.grownBy.trans HG.out g)
  clear g
  have HN := Lib.hid hb
  clear hb
  have qc := Hc.out.1
  have qd := Hd.out.1
  have qS := HS.out.1
  have qT := HT.out.1
  have qK := HK.out.1
  have qN := HN.out.1
  go_wp2_with fail
  clear qc qd qS qT qK qN
  refine (less_n (l := []) (m := []) rfl rfl EX.out.2.2.2.2.1 good_d (by simp) (by simp) (by decide) (by decide) (by decide) (by decide) Hd.out.2.2 (intsW_nil _ none 0) (intsW_nil _ none 0)).mono ?_
  rintro e V17 ⟨a17, c17, rfl, hr, g⟩
  replace Hc := Lib.hid (Hc.out.grown g)
  replace Hd := Lib.hid (Hd.out.grown g)
  replace HS := Lib.hid (HS.out.grown g)
  replace HT := Lib.hid (HT.out.grown g)
  replace HK := Lib.hid (HK.out.grown g)
  replace HN := Lib.hid (HN.out.grown g)
  replace Rr3 := Lib.hid (Rr3.out.grown g)
  replace RS := Lib.hid (RS.out.grown g)
  replace Rr4 := Lib.hid (Rr4.out.grown g)
  replace RT := Lib.hid (RT.out.grown g)
  replace Rr5 := Lib.hid (Rr5.out.grown g)
  replace RN := Lib.hid (RN.out.grown g)
  replace HG := Lib.hid (World.grownBy.trans HG.out g)
  clear g
  have qc := Hc.out.1
  have qd := Hd.out.1
  have qS := HS.out.1
  have qT := HT.out.1
  have qK := HK.out.1
  have qN := HN.out.1
  go_upto_region 8 with fail
  clear qc qd qS qT qK qN
  have hb := CB.new hr
  have g := World.grownBy_alloc V17 (.cells #[.slice a17 gG.length c17] 32) none
  obtain ⟨V18, hV18⟩ : ∃ z, World.alloc V17 (.cells #[.slice a17 gG.length c17] 32) = z := ⟨_, rfl⟩
  rw [hV18] at g hb ⊢
  clear hV18 hr
  obtain ⟨bP, hbb⟩ : ∃ b, V17.heap.size = b := ⟨_, rfl⟩
  rw [hbb] at hb ⊢
  clear hbb
  replace Hc := Lib.hid (Hc.out.grown g)
  replace Hd := Lib.hid (Hd.out.grown g)
  replace HS := Lib.hid (HS.out.grown g)
  replace HT := Lib.hid (HT.out.grown g)
  replace HK := Lib.hid (HK.out.grown g)
  replace HN := Lib.hid (HN.out.grown g)
  replace Rr3 := Lib.hid (Rr3.out.grown g)
  replace RS := Lib.hid (RS.out.grown g)
  replace Rr4 := Lib.hid (Rr4.out.grown g)
  replace RT := Lib.hid (RT.out.grown g)
  replace Rr5 := Lib.hid (Rr5.out.grown g)
  replace RN := Lib.hid (RN.out.grown g)
  replace HG := Lib.hid (World.grownBy.trans HG.out g)
  clear g
  have HP := Lib.hid hb
  clear hb
  have qc := Hc.out.1
  have qd := Hd.out.1
  have qS := HS.out.1
  have qT := HT.out.1
  have qK := HK.out.1
  have qN := HN.out.1
  have qP := HP.out.1
  go_wp2_with fail
  clear qc qd qS qT qK qN qP
  refine (less_n (l := []) (m := []) rfl rfl EX.out.2.2.2.2.2.1 good_d (by simp) (by simp) (by decide) (by decide) (by decide) (by decide) Hd.out.2.2 (intsW_nil _ none 0) (intsW_nil _ none 0)).mono ?_
  rintro e V19 ⟨a19, c19, rfl, hr, g⟩
  replace Hc := Lib.hid (Hc.out.grown g)
  replace Hd := Lib.hid (Hd.out.grown g)
  replace HS := Lib.hid (HS.out.grown g)
  replace HT := Lib.hid (HT.out.grown g)
  replace HK := Lib.hid (HK.out.grown g)
  replace HN := Lib.hid (HN.out.grown g)
  replace HP := Lib.hid (HP.out.grown g)
  replace Rr3 := Lib.hid (Rr3.out.grown g)
  replace RS := Lib.hid (RS.out.grown g)
  replace Rr4 := Lib.hid (Rr4.out.grown g)
  replace RT := Lib.hid (RT.out.grown g)
  replace Rr5 := Lib.hid (Rr5.out.grown g)
  replace RN := Lib.hid (RN.out.grown g)
  replace HG := Lib.hid (World.grownBy.trans HG.out g)
  clear g
  have qc := Hc.out.1
  have qd := Hd.out.1
  have qS := HS.out.1
  have qT := HT.out.1
  have qK := HK.out.1
  have qN := HN.out.1
  have qP := HP.out.1
  go_upto_region 9 with fail
  clear qc qd qS qT qK qN qP
  have hb := CB.new hr
  have g := World.grownBy_alloc V19 (.cells #[.slice a19 gM.length c19] 32) none
  obtain ⟨V20, hV20⟩ : ∃ z, World.alloc V19 (.cells #[.slice a19 gM.length c19] 32) = z := ⟨_, rfl⟩
  rw [hV20] at g hb ⊢
  clear hV20 hr
  obtain ⟨bM, hbb⟩ : ∃ b, V19.heap.size = b := ⟨_, rfl⟩
  rw [hbb] at hb ⊢
  clear hbb
  replace Hc := Lib.hid (Hc.out.grown g)
  replace Hd := Lib.hid (Hd.out.grown g)
  replace HS := Lib.hid (HS.out.grown g)
  replace HT := Lib.hid (HT.out.grown g)
  replace HK := Lib.hid (HK.out.grown g)
  replace HN := Lib.hid (HN.out.grown g)
  replace HP := Lib.hid (HP.out.grown g)
  replace Rr3 := Lib.hid (Rr3.out.grown g)
  replace RS := Lib.hid (RS.out.grown g)
  replace Rr4 := Lib.hid (Rr4.out.grown g)
  replace RT := Lib.hid (RT.out.grown g)
  replace Rr5 := Lib.hid (Rr5.out.grown g)
  replace RN := Lib.hid (RN.out.grown g)
  replace HG := Lib.hid (World.grownBy.trans HG.out g)
  clear g
  have HM := Lib.hid hb
  clear hb
  have qc := Hc.out.1
  have qd := Hd.out.1
  have qS := HS.out.1
  have qT := HT.out.1
  have qK := HK.out.1
  have qN := HN.out.1
  have qP := HP.out.1
  have qM := HM.out.1
  go_wp2_with fail
  clear qc qd qS qT qK qN qP qM
  have g := World.grownBy_alloc V20 (.cells #[.int .i64 2] 3) none
  have hrw := ints_one V20 (2)
  have hs21 : (World.alloc V20 (.cells #[.int .i64 2] 3)).heap.size = V20.heap.size + 1 := by simp
  obtain ⟨V21, hV21⟩ : ∃ z, World.alloc V20 (.cells #[.int .i64 2] 3) = z := ⟨_, rfl⟩
  rw [hV21] at g hrw hs21 ⊢
  clear hV21
  obtain ⟨p21, hp21⟩ : ∃ b, V20.heap.size = b := ⟨_, rfl⟩
  rw [hp21] at hrw hs21 ⊢
  clear hp21
  replace Hc := Lib.hid (Hc.out.grown g)
  replace Hd := Lib.hid (Hd.out.grown g)
  replace HS := Lib.hid (HS.out.grown g)
  replace HT := Lib.hid (HT.out.grown g)
  replace HK := Lib.hid (HK.out.grown g)
  replace HN := Lib.hid (HN.out.grown g)
  replace HP := Lib.hid (HP.out.grown g)
  replace HM := Lib.hid (HM.out.grown g)
  replace Rr3 := Lib.hid (Rr3.out.grown g)
  replace RS := Lib.hid (RS.out.grown g)
  replace Rr4 := Lib.hid (Rr4.out.grown g)
  replace RT := Lib.hid (RT.out.grown g)
  replace Rr5 := Lib.hid (Rr5.out.grown g)
  replace RN := Lib.hid (RN.out.grown g)
  replace HG := Lib.hid (World.grownBy.trans HG.out g)
  clear g
  have Rr9 := Lib.hid hrw
  clear hrw
  have g := World.grownBy_alloc V21 (.cells #[.int .i64 4] 3) none
  have hrw := ints_one V21 (4)
  obtain ⟨V22, hV22⟩ : ∃ z, World.alloc V21 (.cells #[.int .i64 4] 3) = z := ⟨_, rfl⟩
  rw [hV22] at g hrw  ⊢
  clear hV22
  rw [hs21] at hrw
  clear hs21
  replace Hc := Lib.hid (Hc.out.grown g)
  replace Hd := Lib.hid (Hd.out.grown g)
  replace HS := Lib.hid (HS.out.grown g)
  replace HT := Lib.hid (HT.out.grown g)
  replace HK := Lib.hid (HK.out.grown g)
  replace HN := Lib.hid (HN.out.grown g)
  replace HP := Lib.hid (HP.out.grown g)
  replace HM := Lib.hid (HM.out.grown g)
  replace Rr3 := Lib.hid (Rr3.out.grown g)
  replace RS := Lib.hid (RS.out.grown g)
  replace Rr4 := Lib.hid (Rr4.out.grown g)
  replace RT := Lib.hid (RT.out.grown g)
  replace Rr5 := Lib.hid (Rr5.out.grown g)
  replace RN := Lib.hid (RN.out.grown g)
  replace Rr9 := Lib.hid (Rr9.out.grown g)
  replace HG := Lib.hid (World.grownBy.trans HG.out g)
  clear g
  have Rr9b := Lib.hid hrw
  clear hrw
  refine (add_n (l := [2]) (m := [4]) rfl rfl rfl EX.out.2.2.2.2.2.2.1 good_d ok_2 ok_4 (by decide) (by decide) (by decide +kernel) Hd.out.2.2 Rr9.out Rr9b.out).mono ?_
  rintro e V23 ⟨a23, c23, b23, d23, rfl, hr, hrow, g⟩
  replace Hc := Lib.hid (Hc.out.grown g)
  replace Hd := Lib.hid (Hd.out.grown g)
  replace HS := Lib.hid (HS.out.grown g)
  replace HT := Lib.hid (HT.out.grown g)
  replace HK := Lib.hid (HK.out.grown g)
  replace HN := Lib.hid (HN.out.grown g)
  replace HP := Lib.hid (HP.out.grown g)
  replace HM := Lib.hid (HM.out.grown g)
  replace Rr3 := Lib.hid (Rr3.out.grown g)
  replace RS := Lib.hid (RS.out.grown g)
  replace Rr4 := Lib.hid (Rr4.out.grown g)
  replace RT := Lib.hid (RT.out.grown g)
  replace Rr5 := Lib.hid (Rr5.out.grown g)
  replace RN := Lib.hid (RN.out.grown g)
  replace Rr9 := Lib.hid (Rr9.out.grown g)
  replace Rr9b := Lib.hid (Rr9b.out.grown g)
  replace HG := Lib.hid (World.grownBy.trans HG.out g)
  clear g
  have RJ := Lib.hid hrow
  clear hrow
  have qc := Hc.out.1
  have qd := Hd.out.1
  have qS := HS.out.1
  have qT := HT.out.1
  have qK := HK.out.1
  have qN := HN.out.1
  have qP := HP.out.1
  have qM := HM.out.1
  go_upto_region 10 with fail
  clear qc qd qS qT qK qN qP qM
  have hb := CB.new hr
  have g := World.grownBy_alloc V23 (.cells #[.slice a23 gH.length c23] 32) none
  obtain ⟨V24, hV24⟩ : ∃ z, World.alloc V23 (.cells #[.slice a23 gH.length c23] 32) = z := ⟨_, rfl⟩
  rw [hV24] at g hb ⊢
  clear hV24 hr
  obtain ⟨bJ, hbb⟩ : ∃ b, V23.heap.size = b := ⟨_, rfl⟩
  rw [hbb] at hb ⊢
  clear hbb
  replace Hc := Lib.hid (Hc.out.grown g)
  replace Hd := Lib.hid (Hd.out.grown g)
  replace HS := Lib.hid (HS.out.grown g)
  replace HT := Lib.hid (HT.out.grown g)
  replace HK := Lib.hid (HK.out.grown g)
  replace HN := Lib.hid (HN.out.grown g)
  replace HP := Lib.hid (HP.out.grown g)
  replace HM := Lib.hid (HM.out.grown g)
  replace Rr3 := Lib.hid (Rr3.out.grown g)
  replace RS := Lib.hid (RS.out.grown g)
  replace Rr4 := Lib.hid (Rr4.out.grown g)
  replace RT := Lib.hid (RT.out.grown g)
  replace Rr5 := Lib.hid (Rr5.out.grown g)
  replace RN := Lib.hid (RN.out.grown g)
  replace Rr9 := Lib.hid (Rr9.out.grown g)
  replace Rr9b := Lib.hid (Rr9b.out.grown g)
  replace RJ := Lib.hid (RJ.out.grown g)
  replace HG := Lib.hid (World.grownBy.trans HG.out g)
  clear g
  have HJ := Lib.hid hb
  clear hb
  have qc := Hc.out.1
  have qd := Hd.out.1
  have qS := HS.out.1
  have qT := HT.out.1
  have qK := HK.out.1
  have qN := HN.out.1
  have qP := HP.out.1
  have qM := HM.out.1
  have qJ := HJ.out.1
  go_wp2_with fail
  clear qc qd qS qT qK qN qP qM qJ
  have g := World.grownBy_alloc V24 (.cells #[.int .i64 2, .int .i64 4] 3) none
  have hrw := ints_two V24 (2) (4)
  obtain ⟨V25, hV25⟩ : ∃ z, World.alloc V24 (.cells #[.int .i64 2, .int .i64 4] 3) = z := ⟨_, rfl⟩
  rw [hV25] at g hrw  ⊢
  clear hV25
  obtain ⟨p25, hp25⟩ : ∃ b, V24.heap.size = b := ⟨_, rfl⟩
  rw [hp25] at hrw  ⊢
  clear hp25
  replace Hc := Lib.hid (Hc.out.grown g)
  replace Hd := Lib.hid (Hd.out.grown g)
  replace HS := Lib.hid (HS.out.grown g)
  replace HT := Lib.hid (HT.out.grown g)
  replace HK := Lib.hid (HK.out.grown g)
  replace HN := Lib.hid (HN.out.grown g)
  replace HP := Lib.hid (HP.out.grown g)
  replace HM := Lib.hid (HM.out.grown g)
  replace HJ := Lib.hid (HJ.out.grown g)
  replace Rr3 := Lib.hid (Rr3.out.grown g)
  replace RS := Lib.hid (RS.out.grown g)
  replace Rr4 := Lib.hid (Rr4.out.grown g)
  replace RT := Lib.hid (RT.out.grown g)
  replace Rr5 := Lib.hid (Rr5.out.grown g)
  replace RN := Lib.hid (RN.out.grown g)
  replace Rr9 := Lib.hid (Rr9.out.grown g)
  replace Rr9b := Lib.hid (Rr9b.out.grown g)
  replace RJ := Lib.hid (RJ.out.grown g)
  replace HG := Lib.hid (World.grownBy.trans HG.out g)
  clear g
  have RrA := Lib.hid hrw
  clear hrw
  refine (atleast_n (l := [2, 4]) rfl EX.out.2.2.2.2.2.2.2.1 good_d (by decide) ok_24 (by decide) Hd.out.2.2 RrA.out).mono ?_
  rintro e V26 ⟨a26, c26, rfl, hr, g⟩
  replace Hc := Lib.hid (Hc.out.grown g)
  replace Hd := Lib.hid (Hd.out.grown g)
  replace HS := Lib.hid (HS.out.grown g)
  replace HT := Lib.hid (HT.out.grown g)
  replace HK := Lib.hid (HK.out.grown g)
  replace HN := Lib.hid (HN.out.grown g)
  replace HP := Lib.hid (HP.out.grown g)
  replace HM := Lib.hid (HM.out.grown g)
  replace HJ := Lib.hid (HJ.out.grown g)
  replace Rr3 := Lib.hid (Rr3.out.grown g)
  replace RS := Lib.hid (RS.out.grown g)
  replace Rr4 := Lib.hid (Rr4.out.grown g)
  replace RT := Lib.hid (RT.out.grown g)
  replace Rr5 := Lib.hid (Rr5.out.grown g)
  replace RN := Lib.hid (RN.out.grown g)
  replace Rr9 := Lib.hid (Rr9.out.grown g)
  replace Rr9b := Lib.hid (Rr9b.out.grown g)
  replace RJ := Lib.hid (RJ.out.grown g)
  replace RrA := Lib.hid (RrA.out.grown g)
  replace HG := Lib.hid (World.grownBy.trans HG.out g)
  clear g
  have qc := Hc.out.1
  have qd := Hd.out.1
  have qS := HS.out.1
  have qT := HT.out.1
  have qK := HK.out.1
  have qN := HN.out.1
  have qP := HP.out.1
  have qM := HM.out.1
  have qJ := HJ.out.1
  go_upto_region 11 with fail
  clear qc qd qS qT qK qN qP qM qJ
  have hb := CB.new hr
  have g := World.grownBy_alloc V26 (.cells #[.slice a26 gA.length c26] 32) none
  obtain ⟨V27, hV27⟩ : ∃ z, World.alloc V26 (.cells #[.slice a26 gA.length c26] 32) = z := ⟨_, rfl⟩
  rw [hV27] at g hb ⊢
  clear hV27 hr
  obtain ⟨bA, hbb⟩ : ∃ b, V26.heap.size = b := ⟨_, rfl⟩
  rw [hbb] at hb ⊢
  clear hbb
  replace Hc := Lib.hid (Hc.out.grown g)
  replace Hd := Lib.hid (Hd.out.grown g)
  replace HS := Lib.hid (HS.out.grown g)
  replace HT := Lib.hid (HT.out.grown g)
  replace HK := Lib.hid (HK.out.grown g)
  replace HN := Lib.hid (HN.out.grown g)
  replace HP := Lib.hid (HP.out.grown g)
  replace HM := Lib.hid (HM.out.grown g)
  replace HJ := Lib.hid (HJ.out.grown g)
  replace Rr3 := Lib.hid (Rr3.out.grown g)
  replace RS := Lib.hid (RS.out.grown g)
  replace Rr4 := Lib.hid (Rr4.out.grown g)
  replace RT := Lib.hid (RT.out.grown g)
  replace Rr5 := Lib.hid (Rr5.out.grown g)
  replace RN := Lib.hid (RN.out.grown g)
  replace Rr9 := Lib.hid (Rr9.out.grown g)
  replace Rr9b := Lib.hid (Rr9b.out.grown g)
  replace RJ := Lib.hid (RJ.out.grown g)
  replace RrA := Lib.hid (RrA.out.grown g)
  replace HG := Lib.hid (World.grownBy.trans HG.out g)
  clear g
  have HA := Lib.hid hb
  clear hb
  have qc := Hc.out.1
  have qd := Hd.out.1
  have qS := HS.out.1
  have qT := HT.out.1
  have qK := HK.out.1
  have qN := HN.out.1
  have qP := HP.out.1
  have qM := HM.out.1
  have qJ := HJ.out.1
  have qA := HA.out.1
  go_wp2_with fail
  clear qc qd qS qT qK qN qP qM qJ qA
  have g := World.grownBy_alloc V27 (.cells #[.int .i64 2, .int .i64 4] 3) none
  have hrw := ints_two V27 (2) (4)
  obtain ⟨V28, hV28⟩ : ∃ z, World.alloc V27 (.cells #[.int .i64 2, .int .i64 4] 3) = z := ⟨_, rfl⟩
  rw [hV28] at g hrw  ⊢
  clear hV28
  obtain ⟨p28, hp28⟩ : ∃ b, V27.heap.size = b := ⟨_, rfl⟩
  rw [hp28] at hrw  ⊢
  clear hp28
  replace Hc := Lib.hid (Hc.out.grown g)
  replace Hd := Lib.hid (Hd.out.grown g)
  replace HS := Lib.hid (HS.out.grown g)
  replace HT := Lib.hid (HT.out.grown g)
  replace HK := Lib.hid (HK.out.grown g)
  replace HN := Lib.hid (HN.out.grown g)
  replace HP := Lib.hid (HP.out.grown g)
  replace HM := Lib.hid (HM.out.grown g)
  replace HJ := Lib.hid (HJ.out.grown g)
  replace HA := Lib.hid (HA.out.grown g)
  replace Rr3 := Lib.hid (Rr3.out.grown g)
  replace RS := Lib.hid (RS.out.grown g)
  replace Rr4 := Lib.hid (Rr4.out.grown g)
  replace RT := Lib.hid (RT.out.grown g)
  replace Rr5 := Lib.hid (Rr5.out.grown g)
  replace RN := Lib.hid (RN.out.grown g)
  replace Rr9 := Lib.hid (Rr9.out.grown g)
  replace Rr9b := Lib.hid (Rr9b.out.grown g)
  replace RJ := Lib.hid (RJ.out.grown g)
  replace RrA := Lib.hid (RrA.out.grown g)
  replace HG := Lib.hid (World.grownBy.trans HG.out g)
  clear g
  have RrB := Lib.hid hrw
  clear hrw
  refine (atleast_n (l := [2, 4]) rfl EX.out.2.2.2.2.2.2.2.2 good_d (by decide) ok_24 (by decide) Hd.out.2.2 RrB.out).mono ?_
  rintro e V29 ⟨a29, c29, rfl, hr, g⟩
  replace Hc := Lib.hid (Hc.out.grown g)
  replace Hd := Lib.hid (Hd.out.grown g)
  replace HS := Lib.hid (HS.out.grown g)
  replace HT := Lib.hid (HT.out.grown g)
  replace HK := Lib.hid (HK.out.grown g)
  replace HN := Lib.hid (HN.out.grown g)
  replace HP := Lib.hid (HP.out.grown g)
  replace HM := Lib.hid (HM.out.grown g)
  replace HJ := Lib.hid (HJ.out.grown g)
  replace HA := Lib.hid (HA.out.grown g)
  replace Rr3 := Lib.hid (Rr3.out.grown g)
  replace RS := Lib.hid (RS.out.grown g)
  replace Rr4 := Lib.hid (Rr4.out.grown g)
  replace RT := Lib.hid (RT.out.grown g)
  replace Rr5 := Lib.hid (Rr5.out.grown g)
  replace RN := Lib.hid (RN.out.grown g)
  replace Rr9 := Lib.hid (Rr9.out.grown g)
  replace Rr9b := Lib.hid (Rr9b.out.grown g)
  replace RJ := Lib.hid (RJ.out.grown g)
  replace RrA := Lib.hid (RrA.out.grown g)
  replace RrB := Lib.hid (RrB.out.grown g)
  replace HG := Lib.hid (World.grownBy.trans HG.out g)
  clear g
  have qc := Hc.out.1
  have qd := Hd.out.1
  have qS := HS.out.1
  have qT := HT.out.1
  have qK := HK.out.1
  have qN := HN.out.1
  have qP := HP.out.1
  have qM := HM.out.1
  have qJ := HJ.out.1
  have qA := HA.out.1
  go_upto_region 12 with fail
  clear qc qd qS qT qK qN qP qM qJ qA
  have hb := CB.new hr
  have g := World.grownBy_alloc V29 (.cells #[.slice a29 gB.length c29] 32) none
  obtain ⟨V30, hV30⟩ : ∃ z, World.alloc V29 (.cells #[.slice a29 gB.length c29] 32) = z := ⟨_, rfl⟩
  rw [hV30] at g hb ⊢
  clear hV30 hr
  obtain ⟨bB, hbb⟩ : ∃ b, V29.heap.size = b := ⟨_, rfl⟩
  rw [hbb] at hb ⊢
  clear hbb
  replace Hc := Lib.hid (Hc.out.grown g)
  replace Hd := Lib.hid (Hd.out.grown g)
  replace HS := Lib.hid (HS.out.grown g)
  replace HT := Lib.hid (HT.out.grown g)
  replace HK := Lib.hid (HK.out.grown g)
  replace HN := Lib.hid (HN.out.grown g)
  replace HP := Lib.hid (HP.out.grown g)
  replace HM := Lib.hid (HM.out.grown g)
  replace HJ := Lib.hid (HJ.out.grown g)
  replace HA := Lib.hid (HA.out.grown g)
  replace Rr3 := Lib.hid (Rr3.out.grown g)
  replace RS := Lib.hid (RS.out.grown g)
  replace Rr4 := Lib.hid (Rr4.out.grown g)
  replace RT := Lib.hid (RT.out.grown g)
  replace Rr5 := Lib.hid (Rr5.out.grown g)
  replace RN := Lib.hid (RN.out.grown g)
  replace Rr9 := Lib.hid (Rr9.out.grown g)
  replace Rr9b := Lib.hid (Rr9b.out.grown g)
  replace RJ := Lib.hid (RJ.out.grown g)
  replace RrA := Lib.hid (RrA.out.grown g)
  replace RrB := Lib.hid (RrB.out.grown g)
  replace HG := Lib.hid (World.grownBy.trans HG.out g)
  clear g
  have HB := Lib.hid hb
  clear hb
  have qc := Hc.out.1
  have qd := Hd.out.1
  have qS := HS.out.1
  have qT := HT.out.1
  have qK := HK.out.1
  have qN := HN.out.1
  have qP := HP.out.1
  have qM := HM.out.1
  have qJ := HJ.out.1
  have qA := HA.out.1
  have qB := HB.out.1
  go_upto_region 15 with fail
  clear qc qd qS qT qK qN qP qM qJ qA qB
  have g := World.grownBy_alloc V30 (.cells #[.bool false, .bool true] 4) none
  have hbw := bools_two V30 false true
  obtain ⟨V31, hV31⟩ : ∃ z, World.alloc V30 (.cells #[.bool false, .bool true] 4) = z := ⟨_, rfl⟩
  rw [hV31] at g hbw ⊢
  clear hV31
  obtain ⟨pv, hpv⟩ : ∃ b, V30.heap.size = b := ⟨_, rfl⟩
  rw [hpv] at hbw ⊢
  clear hpv
  replace Hc := Lib.hid (Hc.out.grown g)
  replace Hd := Lib.hid (Hd.out.grown g)
  replace HS := Lib.hid (HS.out.grown g)
  replace HT := Lib.hid (HT.out.grown g)
  replace HK := Lib.hid (HK.out.grown g)
  replace HN := Lib.hid (HN.out.grown g)
  replace HP := Lib.hid (HP.out.grown g)
  replace HM := Lib.hid (HM.out.grown g)
  replace HJ := Lib.hid (HJ.out.grown g)
  replace HA := Lib.hid (HA.out.grown g)
  replace HB := Lib.hid (HB.out.grown g)
  replace Rr3 := Lib.hid (Rr3.out.grown g)
  replace RS := Lib.hid (RS.out.grown g)
  replace Rr4 := Lib.hid (Rr4.out.grown g)
  replace RT := Lib.hid (RT.out.grown g)
  replace Rr5 := Lib.hid (Rr5.out.grown g)
  replace RN := Lib.hid (RN.out.grown g)
  replace Rr9 := Lib.hid (Rr9.out.grown g)
  replace Rr9b := Lib.hid (Rr9b.out.grown g)
  replace RJ := Lib.hid (RJ.out.grown g)
  replace RrA := Lib.hid (RrA.out.grown g)
  replace RrB := Lib.hid (RrB.out.grown g)
  replace HG := Lib.hid (World.grownBy.trans HG.out g)
  clear g
  have HBV := Lib.hid hbw
  clear hbw
  have eA := HF.out.2.2.2.2.2.2.1
  have eB := HF.out.2.2.2.2.2.2.2
  subst eA eB
  skip
  skip
  have qc := Hc.out.1
  have qd := Hd.out.1
  have qS := HS.out.1
  have qT := HT.out.1
  have qK := HK.out.1
  have qN := HN.out.1
  have qP := HP.out.1
  have qM := HM.out.1
  have qJ := HJ.out.1
  have qA := HA.out.1
  have qB := HB.out.1
  go_wp2_with fail
  clear qc qd qS qT qK qN qP qM qJ qA qB
  refine (unary_n (vals := v2) (q := true) NX.out.1 (show v2.length = 2 from rfl) HF.out.1.1 BX.out.1.2 (by have := BX.out.1.1; omega) (by rw [NX.out.1]; omega) (by decide) (ok_le (by have := BX.out.1.1; omega) LX.out.1) (by omega) ((HS.out).2.2) (RS.out) (HBV.out)).mono ?_
  rintro e V32 ⟨rfl, g⟩
  replace Hc := Lib.hid (Hc.out.grown g)
  replace Hd := Lib.hid (Hd.out.grown g)
  replace HS := Lib.hid (HS.out.grown g)
  replace HT := Lib.hid (HT.out.grown g)
  replace HK := Lib.hid (HK.out.grown g)
  replace HN := Lib.hid (HN.out.grown g)
  replace HP := Lib.hid (HP.out.grown g)
  replace HM := Lib.hid (HM.out.grown g)
  replace HJ := Lib.hid (HJ.out.grown g)
  replace HA := Lib.hid (HA.out.grown g)
  replace HB := Lib.hid (HB.out.grown g)
  replace Rr3 := Lib.hid (Rr3.out.grown g)
  replace RS := Lib.hid (RS.out.grown g)
  replace Rr4 := Lib.hid (Rr4.out.grown g)
  replace RT := Lib.hid (RT.out.grown g)
  replace Rr5 := Lib.hid (Rr5.out.grown g)
  replace RN := Lib.hid (RN.out.grown g)
  replace Rr9 := Lib.hid (Rr9.out.grown g)
  replace Rr9b := Lib.hid (Rr9b.out.grown g)
  replace RJ := Lib.hid (RJ.out.grown g)
  replace RrA := Lib.hid (RrA.out.grown g)
  replace RrB := Lib.hid (RrB.out.grown g)
  replace HBV := Lib.hid (HBV.out.grown g)
  replace HG := Lib.hid (World.grownBy.trans HG.out g)
  clear g
  have qc := Hc.out.1
  have qd := Hd.out.1
  have qS := HS.out.1
  have qT := HT.out.1
  have qK := HK.out.1
  have qN := HN.out.1
  have qP := HP.out.1
  have qM := HM.out.1
  have qJ := HJ.out.1
  have qA := HA.out.1
  have qB := HB.out.1
  go_wp2_with fail
  clear qc qd qS qT qK qN qP qM qJ qA qB
  refine (unary_n (vals := v2) (q := true) NX.out.2.1 (show v2.length = 2 from rfl) HF.out.2.1 BX.out.2.1.2 (by have := BX.out.2.1.1; omega) (by rw [NX.out.2.1]; omega) (by decide) (ok_le (by have := BX.out.2.1.1; omega) LX.out.2.1) (by omega) ((HT.out).2.2) (RT.out) (HBV.out)).mono ?_
  rintro e V33 ⟨rfl, g⟩
  replace Hc := Lib.hid (Hc.out.grown g)
  replace Hd := Lib.hid (Hd.out.grown g)
  replace HS := Lib.hid (HS.out.grown g)
  replace HT := Lib.hid (HT.out.grown g)
  replace HK := Lib.hid (HK.out.grown g)
  replace HN := Lib.hid (HN.out.grown g)
  replace HP := Lib.hid (HP.out.grown g)
  replace HM := Lib.hid (HM.out.grown g)
  replace HJ := Lib.hid (HJ.out.grown g)
  replace HA := Lib.hid (HA.out.grown g)
  replace HB := Lib.hid (HB.out.grown g)
  replace Rr3 := Lib.hid (Rr3.out.grown g)
  replace RS := Lib.hid (RS.out.grown g)
  replace Rr4 := Lib.hid (Rr4.out.grown g)
  replace RT := Lib.hid (RT.out.grown g)
  replace Rr5 := Lib.hid (Rr5.out.grown g)
  replace RN := Lib.hid (RN.out.grown g)
  replace Rr9 := Lib.hid (Rr9.out.grown g)
  replace Rr9b := Lib.hid (Rr9b.out.grown g)
  replace RJ := Lib.hid (RJ.out.grown g)
  replace RrA := Lib.hid (RrA.out.grown g)
  replace RrB := Lib.hid (RrB.out.grown g)
  replace HBV := Lib.hid (HBV.out.grown g)
  replace HG := Lib.hid (World.grownBy.trans HG.out g)
  clear g
  have qc := Hc.out.1
  have qd := Hd.out.1
  have qS := HS.out.1
  have qT := HT.out.1
  have qK := HK.out.1
  have qN := HN.out.1
  have qP := HP.out.1
  have qM := HM.out.1
  have qJ := HJ.out.1
  have qA := HA.out.1
  have qB := HB.out.1
  go_wp2_with fail
  clear qc qd qS qT qK qN qP qM qJ qA qB
  refine (unary_n (vals := v2) (q := true) NX.out.2.2 (show v2.length = 2 from rfl) HF.out.2.2.2.2.2.1 BX.out.2.2.2.2.2 (by have := BX.out.2.2.2.2.1; omega) (by rw [NX.out.2.2]; omega) (by decide) (ok_le (by have := BX.out.2.2.2.2.1; omega) LX.out.2.2) (by omega) ((HJ.out).2.2) (RJ.out) (HBV.out)).mono ?_
  rintro e V34 ⟨rfl, g⟩
  replace Hc := Lib.hid (Hc.out.grown g)
  replace Hd := Lib.hid (Hd.out.grown g)
  replace HS := Lib.hid (HS.out.grown g)
  replace HT := Lib.hid (HT.out.grown g)
  replace HK := Lib.hid (HK.out.grown g)
  replace HN := Lib.hid (HN.out.grown g)
  replace HP := Lib.hid (HP.out.grown g)
  replace HM := Lib.hid (HM.out.grown g)
  replace HJ := Lib.hid (HJ.out.grown g)
  replace HA := Lib.hid (HA.out.grown g)
  replace HB := Lib.hid (HB.out.grown g)
  replace Rr3 := Lib.hid (Rr3.out.grown g)
  replace RS := Lib.hid (RS.out.grown g)
  replace Rr4 := Lib.hid (Rr4.out.grown g)
  replace RT := Lib.hid (RT.out.grown g)
  replace Rr5 := Lib.hid (Rr5.out.grown g)
  replace RN := Lib.hid (RN.out.grown g)
  replace Rr9 := Lib.hid (Rr9.out.grown g)
  replace Rr9b := Lib.hid (Rr9b.out.grown g)
  replace RJ := Lib.hid (RJ.out.grown g)
  replace RrA := Lib.hid (RrA.out.grown g)
  replace RrB := Lib.hid (RrB.out.grown g)
  replace HBV := Lib.hid (HBV.out.grown g)
  replace HG := Lib.hid (World.grownBy.trans HG.out g)
  clear g
  have qc := Hc.out.1
  have qd := Hd.out.1
  have qS := HS.out.1
  have qT := HT.out.1
  have qK := HK.out.1
  have qN := HN.out.1
  have qP := HP.out.1
  have qM := HM.out.1
  have qJ := HJ.out.1
  have qA := HA.out.1
  have qB := HB.out.1
  go_wp2_with fail
  clear qc qd qS qT qK qN qP qM qJ qA qB
  refine (reval_n gK v2 lK false (show v2.length = 2 from rfl) HF.out.2.2.1.1 (by have := BX.out.2.2.1.1; omega) (by decide) BX.out.2.2.1.2 (by have := HLK.out; omega) ((HK.out).2.2) (HBV.out)).mono ?_
  rintro e V35 ⟨rfl, g⟩
  replace Hc := Lib.hid (Hc.out.grown g)
  replace Hd := Lib.hid (Hd.out.grown g)
  replace HS := Lib.hid (HS.out.grown g)
  replace HT := Lib.hid (HT.out.grown g)
  replace HK := Lib.hid (HK.out.grown g)
  replace HN := Lib.hid (HN.out.grown g)
  replace HP := Lib.hid (HP.out.grown g)
  replace HM := Lib.hid (HM.out.grown g)
  replace HJ := Lib.hid (HJ.out.grown g)
  replace HA := Lib.hid (HA.out.grown g)
  replace HB := Lib.hid (HB.out.grown g)
  replace Rr3 := Lib.hid (Rr3.out.grown g)
  replace RS := Lib.hid (RS.out.grown g)
  replace Rr4 := Lib.hid (Rr4.out.grown g)
  replace RT := Lib.hid (RT.out.grown g)
  replace Rr5 := Lib.hid (Rr5.out.grown g)
  replace RN := Lib.hid (RN.out.grown g)
  replace Rr9 := Lib.hid (Rr9.out.grown g)
  replace Rr9b := Lib.hid (Rr9b.out.grown g)
  replace RJ := Lib.hid (RJ.out.grown g)
  replace RrA := Lib.hid (RrA.out.grown g)
  replace RrB := Lib.hid (RrB.out.grown g)
  replace HBV := Lib.hid (HBV.out.grown g)
  replace HG := Lib.hid (World.grownBy.trans HG.out g)
  clear g
  have qc := Hc.out.1
  have qd := Hd.out.1
  have qS := HS.out.1
  have qT := HT.out.1
  have qK := HK.out.1
  have qN := HN.out.1
  have qP := HP.out.1
  have qM := HM.out.1
  have qJ := HJ.out.1
  have qA := HA.out.1
  have qB := HB.out.1
  go_wp2_with fail
  clear qc qd qS qT qK qN qP qM qJ qA qB
  have hbt := bools_two V35 true true
  have g := World.grownBy_alloc V35 (.cells #[.bool true, .bool true] 4) none
  obtain ⟨V36, hV36⟩ : ∃ z, World.alloc V35 (.cells #[.bool true, .bool true] 4) = z := ⟨_, rfl⟩
  rw [hV36] at hbt g ⊢
  clear hV36
  replace Hc := Lib.hid (Hc.out.grown g)
  replace Hd := Lib.hid (Hd.out.grown g)
  replace HS := Lib.hid (HS.out.grown g)
  replace HT := Lib.hid (HT.out.grown g)
  replace HK := Lib.hid (HK.out.grown g)
  replace HN := Lib.hid (HN.out.grown g)
  replace HP := Lib.hid (HP.out.grown g)
  replace HM := Lib.hid (HM.out.grown g)
  replace HJ := Lib.hid (HJ.out.grown g)
  replace HA := Lib.hid (HA.out.grown g)
  replace HB := Lib.hid (HB.out.grown g)
  replace Rr3 := Lib.hid (Rr3.out.grown g)
  replace RS := Lib.hid (RS.out.grown g)
  replace Rr4 := Lib.hid (Rr4.out.grown g)
  replace RT := Lib.hid (RT.out.grown g)
  replace Rr5 := Lib.hid (Rr5.out.grown g)
  replace RN := Lib.hid (RN.out.grown g)
  replace Rr9 := Lib.hid (Rr9.out.grown g)
  replace Rr9b := Lib.hid (Rr9b.out.grown g)
  replace RJ := Lib.hid (RJ.out.grown g)
  replace RrA := Lib.hid (RrA.out.grown g)
  replace RrB := Lib.hid (RrB.out.grown g)
  replace HBV := Lib.hid (HBV.out.grown g)
  replace HG := Lib.hid (World.grownBy.trans HG.out g)
  clear g
  refine (reval_n gK [true, true] lK true (show [true, true].length = 2 from rfl) HF.out.2.2.1.2 (by have := BX.out.2.2.1.1; omega) (by decide) BX.out.2.2.1.2 (by have := HLK.out; omega) ((HK.out).2.2) (hbt)).mono ?_
  rintro e V37 ⟨rfl, g⟩
  replace Hc := Lib.hid (Hc.out.grown g)
  replace Hd := Lib.hid (Hd.out.grown g)
  replace HS := Lib.hid (HS.out.grown g)
  replace HT := Lib.hid (HT.out.grown g)
  replace HK := Lib.hid (HK.out.grown g)
  replace HN := Lib.hid (HN.out.grown g)
  replace HP := Lib.hid (HP.out.grown g)
  replace HM := Lib.hid (HM.out.grown g)
  replace HJ := Lib.hid (HJ.out.grown g)
  replace HA := Lib.hid (HA.out.grown g)
  replace HB := Lib.hid (HB.out.grown g)
  replace Rr3 := Lib.hid (Rr3.out.grown g)
  replace RS := Lib.hid (RS.out.grown g)
  replace Rr4 := Lib.hid (Rr4.out.grown g)
  replace RT := Lib.hid (RT.out.grown g)
  replace Rr5 := Lib.hid (Rr5.out.grown g)
  replace RN := Lib.hid (RN.out.grown g)
  replace Rr9 := Lib.hid (Rr9.out.grown g)
  replace Rr9b := Lib.hid (Rr9b.out.grown g)
  replace RJ := Lib.hid (RJ.out.grown g)
  replace RrA := Lib.hid (RrA.out.grown g)
  replace RrB := Lib.hid (RrB.out.grown g)
  replace HBV := Lib.hid (HBV.out.grown g)
  replace HG := Lib.hid (World.grownBy.trans HG.out g)
  clear g
  clear hbt
  have qc := Hc.out.1
  have qd := Hd.out.1
  have qS := HS.out.1
  have qT := HT.out.1
  have qK := HK.out.1
  have qN := HN.out.1
  have qP := HP.out.1
  have qM := HM.out.1
  have qJ := HJ.out.1
  have qA := HA.out.1
  have qB := HB.out.1
  go_wp2_with fail
  clear qc qd qS qT qK qN qP qM qJ qA qB
  refine (reval_n gG v2 lG true (show v2.length = 2 from rfl) HF.out.2.2.2.1 (by have := BX.out.2.2.2.1.1; omega) (by decide) BX.out.2.2.2.1.2 (by have := HLK.out; omega) ((HP.out).2.2) (HBV.out)).mono ?_
  rintro e V38 ⟨rfl, g⟩
  replace Hc := Lib.hid (Hc.out.grown g)
  replace Hd := Lib.hid (Hd.out.grown g)
  replace HS := Lib.hid (HS.out.grown g)
  replace HT := Lib.hid (HT.out.grown g)
  replace HK := Lib.hid (HK.out.grown g)
  replace HN := Lib.hid (HN.out.grown g)
  replace HP := Lib.hid (HP.out.grown g)
  replace HM := Lib.hid (HM.out.grown g)
  replace HJ := Lib.hid (HJ.out.grown g)
  replace HA := Lib.hid (HA.out.grown g)
  replace HB := Lib.hid (HB.out.grown g)
  replace Rr3 := Lib.hid (Rr3.out.grown g)
  replace RS := Lib.hid (RS.out.grown g)
  replace Rr4 := Lib.hid (Rr4.out.grown g)
  replace RT := Lib.hid (RT.out.grown g)
  replace Rr5 := Lib.hid (Rr5.out.grown g)
  replace RN := Lib.hid (RN.out.grown g)
  replace Rr9 := Lib.hid (Rr9.out.grown g)
  replace Rr9b := Lib.hid (Rr9b.out.grown g)
  replace RJ := Lib.hid (RJ.out.grown g)
  replace RrA := Lib.hid (RrA.out.grown g)
  replace RrB := Lib.hid (RrB.out.grown g)
  replace HBV := Lib.hid (HBV.out.grown g)
  replace HG := Lib.hid (World.grownBy.trans HG.out g)
  clear g
  have qc := Hc.out.1
  have qd := Hd.out.1
  have qS := HS.out.1
  have qT := HT.out.1
  have qK := HK.out.1
  have qN := HN.out.1
  have qP := HP.out.1
  have qM := HM.out.1
  have qJ := HJ.out.1
  have qA := HA.out.1
  have qB := HB.out.1
  go_wp2_with fail
  clear qc qd qS qT qK qN qP qM qJ qA qB
  refine (reval_n dG v2 lM false (show v2.length = 2 from rfl) HF.out.2.2.2.2.1 (by decide) (by decide) good_d (by have := HLK.out; omega) ((Hd.out).2.2) (HBV.out)).mono ?_
  rintro e V39 ⟨rfl, g⟩
  replace Hc := Lib.hid (Hc.out.grown g)
  replace Hd := Lib.hid (Hd.out.grown g)
  replace HS := Lib.hid (HS.out.grown g)
  replace HT := Lib.hid (HT.out.grown g)
  replace HK := Lib.hid (HK.out.grown g)
  replace HN := Lib.hid (HN.out.grown g)
  replace HP := Lib.hid (HP.out.grown g)
  replace HM := Lib.hid (HM.out.grown g)
  replace HJ := Lib.hid (HJ.out.grown g)
  replace HA := Lib.hid (HA.out.grown g)
  replace HB := Lib.hid (HB.out.grown g)
  replace Rr3 := Lib.hid (Rr3.out.grown g)
  replace RS := Lib.hid (RS.out.grown g)
  replace Rr4 := Lib.hid (Rr4.out.grown g)
  replace RT := Lib.hid (RT.out.grown g)
  replace Rr5 := Lib.hid (Rr5.out.grown g)
  replace RN := Lib.hid (RN.out.grown g)
  replace Rr9 := Lib.hid (Rr9.out.grown g)
  replace Rr9b := Lib.hid (Rr9b.out.grown g)
  replace RJ := Lib.hid (RJ.out.grown g)
  replace RrA := Lib.hid (RrA.out.grown g)
  replace RrB := Lib.hid (RrB.out.grown g)
  replace HBV := Lib.hid (HBV.out.grown g)
  replace HG := Lib.hid (World.grownBy.trans HG.out g)
  clear g
  have qc := Hc.out.1
  have qd := Hd.out.1
  have qS := HS.out.1
  have qT := HT.out.1
  have qK := HK.out.1
  have qN := HN.out.1
  have qP := HP.out.1
  have qM := HM.out.1
  have qJ := HJ.out.1
  have qA := HA.out.1
  have qB := HB.out.1
  go_wp2_with fail
  clear qc qd qS qT qK qN qP qM qJ qA qB
  refine (value_n (vals := v2) (q := 1) NX.out.1 (show v2.length = 2 from rfl) HF.out.1.2 BX.out.1.2 (by have := BX.out.1.1; omega) (by rw [NX.out.1]; omega) (by decide) (ok_le (by have := BX.out.1.1; omega) LX.out.1) ((HS.out).2.2) (RS.out) (HBV.out)).mono ?_
  rintro e V40 ⟨rfl, g⟩
  replace Hc := Lib.hid (Hc.out.grown g)
  replace Hd := Lib.hid (Hd.out.grown g)
  replace HS := Lib.hid (HS.out.grown g)
  replace HT := Lib.hid (HT.out.grown g)
  replace HK := Lib.hid (HK.out.grown g)
  replace HN := Lib.hid (HN.out.grown g)
  replace HP := Lib.hid (HP.out.grown g)
  replace HM := Lib.hid (HM.out.grown g)
  replace HJ := Lib.hid (HJ.out.grown g)
  replace HA := Lib.hid (HA.out.grown g)
  replace HB := Lib.hid (HB.out.grown g)
  replace Rr3 := Lib.hid (Rr3.out.grown g)
  replace RS := Lib.hid (RS.out.grown g)
  replace Rr4 := Lib.hid (Rr4.out.grown g)
  replace RT := Lib.hid (RT.out.grown g)
  replace Rr5 := Lib.hid (Rr5.out.grown g)
  replace RN := Lib.hid (RN.out.grown g)
  replace Rr9 := Lib.hid (Rr9.out.grown g)
  replace Rr9b := Lib.hid (Rr9b.out.grown g)
  replace RJ := Lib.hid (RJ.out.grown g)
  replace RrA := Lib.hid (RrA.out.grown g)
  replace RrB := Lib.hid (RrB.out.grown g)
  replace HBV := Lib.hid (HBV.out.grown g)
  replace HG := Lib.hid (World.grownBy.trans HG.out g)
  clear g
  have qc := Hc.out.1
  have qd := Hd.out.1
  have qS := HS.out.1
  have qT := HT.out.1
  have qK := HK.out.1
  have qN := HN.out.1
  have qP := HP.out.1
  have qM := HM.out.1
  have qJ := HJ.out.1
  have qA := HA.out.1
  have qB := HB.out.1
  go_wp2_with fail
  clear qc qd qS qT qK qN qP qM qJ qA qB
  have hit := ints_three V40 2 4 4
  have g := World.grownBy_alloc V40 (.cells #[.int .i64 2, .int .i64 4, .int .i64 4] 3) none
  obtain ⟨V41, hV41⟩ : ∃ z, World.alloc V40 (.cells #[.int .i64 2, .int .i64 4, .int .i64 4] 3) = z := ⟨_, rfl⟩
  rw [hV41] at hit g ⊢
  clear hV41
  replace Hc := Lib.hid (Hc.out.grown g)
  replace Hd := Lib.hid (Hd.out.grown g)
  replace HS := Lib.hid (HS.out.grown g)
  replace HT := Lib.hid (HT.out.grown g)
  replace HK := Lib.hid (HK.out.grown g)
  replace HN := Lib.hid (HN.out.grown g)
  replace HP := Lib.hid (HP.out.grown g)
  replace HM := Lib.hid (HM.out.grown g)
  replace HJ := Lib.hid (HJ.out.grown g)
  replace HA := Lib.hid (HA.out.grown g)
  replace HB := Lib.hid (HB.out.grown g)
  replace Rr3 := Lib.hid (Rr3.out.grown g)
  replace RS := Lib.hid (RS.out.grown g)
  replace Rr4 := Lib.hid (Rr4.out.grown g)
  replace RT := Lib.hid (RT.out.grown g)
  replace Rr5 := Lib.hid (Rr5.out.grown g)
  replace RN := Lib.hid (RN.out.grown g)
  replace Rr9 := Lib.hid (Rr9.out.grown g)
  replace Rr9b := Lib.hid (Rr9b.out.grown g)
  replace RJ := Lib.hid (RJ.out.grown g)
  replace RrA := Lib.hid (RrA.out.grown g)
  replace RrB := Lib.hid (RrB.out.grown g)
  replace HBV := Lib.hid (HBV.out.grown g)
  replace HG := Lib.hid (World.grownBy.trans HG.out g)
  clear g
  refine (value_n (vals := v2) (q := 2) (show [2, 4, 4].length = 3 from rfl) (show v2.length = 2 from rfl) hd_v good_d (by decide) (by decide) (by decide) (by simp) ((Hd.out).2.2) hit (HBV.out)).mono ?_
  rintro e V42 ⟨rfl, g⟩
  replace Hc := Lib.hid (Hc.out.grown g)
  replace Hd := Lib.hid (Hd.out.grown g)
  replace HS := Lib.hid (HS.out.grown g)
  replace HT := Lib.hid (HT.out.grown g)
  replace HK := Lib.hid (HK.out.grown g)
  replace HN := Lib.hid (HN.out.grown g)
  replace HP := Lib.hid (HP.out.grown g)
  replace HM := Lib.hid (HM.out.grown g)
  replace HJ := Lib.hid (HJ.out.grown g)
  replace HA := Lib.hid (HA.out.grown g)
  replace HB := Lib.hid (HB.out.grown g)
  replace Rr3 := Lib.hid (Rr3.out.grown g)
  replace RS := Lib.hid (RS.out.grown g)
  replace Rr4 := Lib.hid (Rr4.out.grown g)
  replace RT := Lib.hid (RT.out.grown g)
  replace Rr5 := Lib.hid (Rr5.out.grown g)
  replace RN := Lib.hid (RN.out.grown g)
  replace Rr9 := Lib.hid (Rr9.out.grown g)
  replace Rr9b := Lib.hid (Rr9b.out.grown g)
  replace RJ := Lib.hid (RJ.out.grown g)
  replace RrA := Lib.hid (RrA.out.grown g)
  replace RrB := Lib.hid (RrB.out.grown g)
  replace HBV := Lib.hid (HBV.out.grown g)
  replace HG := Lib.hid (World.grownBy.trans HG.out g)
  clear g
  clear hit
  go_wp2_with fail
  go_ret
  exact ⟨rfl, HG.out⟩
end Go.Proofs.Ythagoihpppppkaa
