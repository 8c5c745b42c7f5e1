/- The law: conjunctions and disjunctions with constants, with the same and the opposite reference are simplified. -/
import Derived.Test.YtllljcbdinckgaaD2
import Derived.Test.YtllljcbdinckgaaH4
namespace Go.Proofs.Ytllljcbdinckgaa
open Go.RowKit

set_option maxRecDepth 100000 in
set_option maxHeartbeats 4000000 in
theorem simplifies_calls (l : List Stp) (sa : Option Addr) (sc : Nat) (n : Nat) (w : World) (h : StpsW w sa sc l) (hs : ∀ s ∈ l, StpOk s) (hn : n < 256) :
    Calls Try.prog 8 #[.slice sa l.length sc, .int .u8 (n : Int)] w fun e w' => e = .returned (.bool true) ∧ w.grownBy w' none := by
  obtain ⟨N, hN⟩ : ∃ N, l.length = N := ⟨_, rfl⟩
  have HS := Lib.hid (And.intro h hs)
  have HN := Lib.hid hN
  rw [hN]
  clear h hs hN
  by_cases h60 : 60 < N
  · have f1 : decide ((60 : Int) < (N : Int)) = true := decide_eq_true (by omega)
    have f2 : decide (60 < N) = true := decide_eq_true h60
    go_enter Try.func8, Try.ntmps8
    go_wp2_with fail
    go_at_call 10
    refine (head_calls _).mono ?_
    rintro e V1 ⟨rfl, g⟩
    go_wp2_with fail
    go_ret
    exact ⟨rfl, g⟩
  have f1 : decide ((60 : Int) < (N : Int)) = false := decide_eq_false (by omega)
  have f2 : decide (60 < N) = false := decide_eq_false h60
  obtain ⟨p, hp⟩ : ∃ p, buildC l = p := ⟨_, rfl⟩
  obtain ⟨g0, refs⟩ := p
  have HB := Lib.hid (show Built (g0, refs) N by have := built l (by rw [HN.out]; omega); rw [hp, HN.out] at this; exact this)
  have HP := Lib.hid hp
  clear hp
  have HG := Lib.hid (grown_refl w none)
  have HGD := Lib.hid (show Good g0 from HB.out.good)
  have HL := Lib.hid (show g0.length ≤ 181 from by have := HB.out.len; simp only at this; omega)
  have HRL := Lib.hid (show refs.length = N from HB.out.refs)
  have HRO := Lib.hid (show ∀ r ∈ refs, Ok g0 r from HB.out.ok)
  go_enter Try.func8, Try.ntmps8
  go_wp2_with fail
  go_at_call 10
  refine (head_calls _).mono ?_
  rintro e V1 ⟨rfl, g⟩
  replace HG := Lib.hid (World.grownBy.trans HG.out g)
  clear g
  go_wp2_with fail
  go_at_call 29
  have HBC := Lib.hid (build_calls l sa sc V1 HP.out (HS.out.1.grown HG.out) (by rw [HN.out]; omega) HS.out.2)
  rw [HN.out] at HBC
  refine HBC.out.mono ?_
  rintro e V2 ⟨a2, c2, ra, rc, rfl, hr, hri, g⟩
  replace HG := Lib.hid (World.grownBy.trans HG.out g)
  clear g
  have HRI := Lib.hid hri
  clear hri HBC
  go_upto_region 5 with fail
  have hb := CB.new hr
  have g := World.grownBy_alloc V2 (.cells #[.slice a2 g0.length c2] 25) none
  obtain ⟨V3, hV3⟩ : ∃ z, World.alloc V2 (.cells #[.slice a2 g0.length c2] 25) = z := ⟨_, rfl⟩
  rw [hV3] at g hb ⊢
  clear hV3 hr
  obtain ⟨bc, hbb⟩ : ∃ b, V2.heap.size = b := ⟨_, rfl⟩
  rw [hbb] at hb ⊢
  have Lc := Lib.hid (Nat.le_of_eq hbb)
  have Zc := Lib.hid (Nat.le_trans (World.grownBy.size HG.out) (Nat.le_of_eq hbb))
  clear hbb
  replace HRI := Lib.hid (HRI.out.grown g)
  replace HG := Lib.hid (World.grownBy.trans HG.out g)
  clear g
  have Hc := Lib.hid hb
  clear hb
  clear f1 f2
  have qc := Hc.out.1
  have fc := Hc.out.2.1
  go_wp2_with fail
  clear qc fc
  go_at_call 30
  have HPC := Lib.hid (pick_calls refs n ra rc V3 HRI.out (by rw [HRL.out]; omega) hn (ok_le (by have := HL.out; omega) HRO.out))
  obtain ⟨x, hx⟩ : ∃ x, pickL refs n = x := ⟨_, rfl⟩
  rw [hx] at HPC
  have Ox := Lib.hid (show Ok g0 x from by rw [← hx]; exact pick_ok HGD.out.pos HRO.out n)
  have Mx := Lib.hid (show x ≤ 9223372036854775807 from by have := Ox.out.2; have := HL.out; omega)
  have Ex := Lib.hid hx
  clear hx
  refine HPC.out.mono ?_
  rintro e w9 ⟨rfl, hw9⟩
  rw [hw9]
  clear hw9 w9 HPC
  have qc := Hc.out.1
  have fc := Hc.out.2.1
  go_wp2_with fail
  clear qc fc
  go_at_call 25
  have HNQ := Lib.hid (not_at (w := V3) x Mx.out)
  obtain ⟨nx, hnx⟩ : ∃ y, notR x = y := ⟨_, rfl⟩
  rw [hnx] at HNQ
  have Enx := Lib.hid hnx
  have Onx := Lib.hid (show Ok g0 nx from by rw [← hnx]; exact notR_ok Ox.out)
  have Mnx := Lib.hid (show nx ≤ 9223372036854775807 from by rw [← hnx]; exact notR_le Mx.out)
  have Inx := Lib.hid (show notR nx = x from by rw [← hnx]; exact notR_notR Ox.out.1)
  clear hnx
  refine (HNQ.out).mono ?_
  rintro e w9 ⟨rfl, hw9⟩
  rw [hw9]
  clear hw9 w9
  clear HNQ
  have qc := Hc.out.1
  have fc := Hc.out.2.1
  go_wp2_with fail
  clear qc fc
  go_at_call 14
  refine (and_at x 0 (and_true' HGD.out Ox.out) HGD.out (by have := HL.out; omega) Mx.out (by omega) Hc.out.2.2).mono ?_
  rintro e V4 ⟨a4, c4, rfl, hr, g⟩
  replace Hc := Lib.hid (Hc.out.grown g)
  replace HRI := Lib.hid (HRI.out.grown g)
  replace HG := Lib.hid (World.grownBy.trans HG.out g)
  clear g
  have qc := Hc.out.1
  have fc := Hc.out.2.1
  go_upto_region 8 with fail
  clear qc fc
  have hb := CB.new hr
  have g := World.grownBy_alloc V4 (.cells #[.slice a4 g0.length c4] 25) none
  obtain ⟨V5, hV5⟩ : ∃ z, World.alloc V4 (.cells #[.slice a4 g0.length c4] 25) = z := ⟨_, rfl⟩
  rw [hV5] at g hb ⊢
  clear hV5 hr
  obtain ⟨bd, hbb⟩ : ∃ b, V4.heap.size = b := ⟨_, rfl⟩
  rw [hbb] at hb ⊢
  have Ld := Lib.hid (Nat.le_of_eq hbb)
  have Zd := Lib.hid (Nat.le_trans (World.grownBy.size HG.out) (Nat.le_of_eq hbb))
  clear hbb
  replace Hc := Lib.hid (Hc.out.grown g)
  replace HRI := Lib.hid (HRI.out.grown g)
  replace HG := Lib.hid (World.grownBy.trans HG.out g)
  clear g
  have Hd := Lib.hid hb
  clear hb
  have qc := Hc.out.1
  have fc := Hc.out.2.1
  have qd := Hd.out.1
  have fd := Hd.out.2.1
  go_wp2_with fail
  clear qc fc qd fd
  go_at_call 14
  refine (and_at 1 x (and_false' HGD.out Ox.out) HGD.out (by have := HL.out; omega) (by omega) Mx.out Hc.out.2.2).mono ?_
  rintro e V6 ⟨a6, c6, rfl, hr, g⟩
  replace Hc := Lib.hid (Hc.out.grown g)
  replace Hd := Lib.hid (Hd.out.grown g)
  replace HRI := Lib.hid (HRI.out.grown g)
  replace HG := Lib.hid (World.grownBy.trans HG.out g)
  clear g
  have qc := Hc.out.1
  have fc := Hc.out.2.1
  have qd := Hd.out.1
  have fd := Hd.out.2.1
  go_upto_region 9 with fail
  clear qc fc qd fd
  have hb := CB.new hr
  have g := World.grownBy_alloc V6 (.cells #[.slice a6 g0.length c6] 25) none
  obtain ⟨V7, hV7⟩ : ∃ z, World.alloc V6 (.cells #[.slice a6 g0.length c6] 25) = z := ⟨_, rfl⟩
  rw [hV7] at g hb ⊢
  clear hV7 hr
  obtain ⟨be, hbb⟩ : ∃ b, V6.heap.size = b := ⟨_, rfl⟩
  rw [hbb] at hb ⊢
  have Le := Lib.hid (Nat.le_of_eq hbb)
  have Ze := Lib.hid (Nat.le_trans (World.grownBy.size HG.out) (Nat.le_of_eq hbb))
  clear hbb
  replace Hc := Lib.hid (Hc.out.grown g)
  replace Hd := Lib.hid (Hd.out.grown g)
  replace HRI := Lib.hid (HRI.out.grown g)
  replace HG := Lib.hid (World.grownBy.trans HG.out g)
  clear g
  have He := Lib.hid hb
  clear hb
  have qc := Hc.out.1
  have fc := Hc.out.2.1
  have qd := Hd.out.1
  have fd := Hd.out.2.1
  have qe := He.out.1
  have fe := He.out.2.1
  go_wp2_with fail
  clear qc fc qd fd qe fe
  go_at_call 14
  refine (and_at x x (and_self' HGD.out Ox.out) HGD.out (by have := HL.out; omega) Mx.out Mx.out Hc.out.2.2).mono ?_
  rintro e V8 ⟨a8, c8, rfl, hr, g⟩
  replace Hc := Lib.hid (Hc.out.grown g)
  replace Hd := Lib.hid (Hd.out.grown g)
  replace He := Lib.hid (He.out.grown g)
  replace HRI := Lib.hid (HRI.out.grown g)
  replace HG := Lib.hid (World.grownBy.trans HG.out g)
  clear g
  have qc := Hc.out.1
  have fc := Hc.out.2.1
  have qd := Hd.out.1
  have fd := Hd.out.2.1
  have qe := He.out.1
  have fe := He.out.2.1
  go_upto_region 10 with fail
  clear qc fc qd fd qe fe
  have hb := CB.new hr
  have g := World.grownBy_alloc V8 (.cells #[.slice a8 g0.length c8] 25) none
  obtain ⟨V9, hV9⟩ : ∃ z, World.alloc V8 (.cells #[.slice a8 g0.length c8] 25) = z := ⟨_, rfl⟩
  rw [hV9] at g hb ⊢
  clear hV9 hr
  obtain ⟨bf, hbb⟩ : ∃ b, V8.heap.size = b := ⟨_, rfl⟩
  rw [hbb] at hb ⊢
  have Lf := Lib.hid (Nat.le_of_eq hbb)
  have Zf := Lib.hid (Nat.le_trans (World.grownBy.size HG.out) (Nat.le_of_eq hbb))
  clear hbb
  replace Hc := Lib.hid (Hc.out.grown g)
  replace Hd := Lib.hid (Hd.out.grown g)
  replace He := Lib.hid (He.out.grown g)
  replace HRI := Lib.hid (HRI.out.grown g)
  replace HG := Lib.hid (World.grownBy.trans HG.out g)
  clear g
  have Hf := Lib.hid hb
  clear hb
  have qc := Hc.out.1
  have fc := Hc.out.2.1
  have qd := Hd.out.1
  have fd := Hd.out.2.1
  have qe := He.out.1
  have fe := He.out.2.1
  have qf := Hf.out.1
  have ff := Hf.out.2.1
  go_wp2_with fail
  clear qc fc qd fd qe fe qf ff
  go_at_call 14
  refine (and_at (g := g0) (r := 1) nx x (by rw [← Enx.out]; exact and_not' HGD.out Ox.out) HGD.out (by have := HL.out; omega) Mnx.out Mx.out Hc.out.2.2).mono ?_
  rintro e V10 ⟨a10, c10, rfl, hr, g⟩
  replace Hc := Lib.hid (Hc.out.grown g)
  replace Hd := Lib.hid (Hd.out.grown g)
  replace He := Lib.hid (He.out.grown g)
  replace Hf := Lib.hid (Hf.out.grown g)
  replace HRI := Lib.hid (HRI.out.grown g)
  replace HG := Lib.hid (World.grownBy.trans HG.out g)
  clear g
  have qc := Hc.out.1
  have fc := Hc.out.2.1
  have qd := Hd.out.1
  have fd := Hd.out.2.1
  have qe := He.out.1
  have fe := He.out.2.1
  have qf := Hf.out.1
  have ff := Hf.out.2.1
  go_upto_region 11 with fail
  clear qc fc qd fd qe fe qf ff
  have hb := CB.new hr
  have g := World.grownBy_alloc V10 (.cells #[.slice a10 g0.length c10] 25) none
  obtain ⟨V11, hV11⟩ : ∃ z, World.alloc V10 (.cells #[.slice a10 g0.length c10] 25) = z := ⟨_, rfl⟩
  rw [hV11] at g hb ⊢
  clear hV11 hr
  obtain ⟨bg, hbb⟩ : ∃ b, V10.heap.size = b := ⟨_, rfl⟩
  rw [hbb] at hb ⊢
  have Lg := Lib.hid (Nat.le_of_eq hbb)
  have Zg := Lib.hid (Nat.le_trans (World.grownBy.size HG.out) (Nat.le_of_eq hbb))
  clear hbb
  replace Hc := Lib.hid (Hc.out.grown g)
  replace Hd := Lib.hid (Hd.out.grown g)
  replace He := Lib.hid (He.out.grown g)
  replace Hf := Lib.hid (Hf.out.grown g)
  replace HRI := Lib.hid (HRI.out.grown g)
  replace HG := Lib.hid (World.grownBy.trans HG.out g)
  clear g
  have Hg := Lib.hid hb
  clear hb
  have qc := Hc.out.1
  have fc := Hc.out.2.1
  have qd := Hd.out.1
  have fd := Hd.out.2.1
  have qe := He.out.1
  have fe := He.out.2.1
  have qf := Hf.out.1
  have ff := Hf.out.2.1
  have qg := Hg.out.1
  have fg := Hg.out.2.1
  go_wp2_with fail
  clear qc fc qd fd qe fe qf ff qg fg
  go_at_call 16
  refine (or_at (g := g0) (r := 0) x nx (by rw [← Enx.out]; exact or_not' HGD.out Ox.out) HGD.out (by have := HL.out; omega) Mx.out Mnx.out Hc.out.2.2).mono ?_
  rintro e V12 ⟨a12, c12, rfl, hr, g⟩
  replace Hc := Lib.hid (Hc.out.grown g)
  replace Hd := Lib.hid (Hd.out.grown g)
  replace He := Lib.hid (He.out.grown g)
  replace Hf := Lib.hid (Hf.out.grown g)
  replace Hg := Lib.hid (Hg.out.grown g)
  replace HRI := Lib.hid (HRI.out.grown g)
  replace HG := Lib.hid (World.grownBy.trans HG.out g)
  clear g
  have qc := Hc.out.1
  have fc := Hc.out.2.1
  have qd := Hd.out.1
  have fd := Hd.out.2.1
  have qe := He.out.1
  have fe := He.out.2.1
  have qf := Hf.out.1
  have ff := Hf.out.2.1
  have qg := Hg.out.1
  have fg := Hg.out.2.1
  go_upto_region 12 with fail
  clear qc fc qd fd qe fe qf ff qg fg
  have hb := CB.new hr
  have g := World.grownBy_alloc V12 (.cells #[.slice a12 g0.length c12] 25) none
  obtain ⟨V13, hV13⟩ : ∃ z, World.alloc V12 (.cells #[.slice a12 g0.length c12] 25) = z := ⟨_, rfl⟩
  rw [hV13] at g hb ⊢
  clear hV13 hr
  obtain ⟨bh, hbb⟩ : ∃ b, V12.heap.size = b := ⟨_, rfl⟩
  rw [hbb] at hb ⊢
  have Lh := Lib.hid (Nat.le_of_eq hbb)
  have Zh := Lib.hid (Nat.le_trans (World.grownBy.size HG.out) (Nat.le_of_eq hbb))
  clear hbb
  replace Hc := Lib.hid (Hc.out.grown g)
  replace Hd := Lib.hid (Hd.out.grown g)
  replace He := Lib.hid (He.out.grown g)
  replace Hf := Lib.hid (Hf.out.grown g)
  replace Hg := Lib.hid (Hg.out.grown g)
  replace HRI := Lib.hid (HRI.out.grown g)
  replace HG := Lib.hid (World.grownBy.trans HG.out g)
  clear g
  have Hh := Lib.hid hb
  clear hb
  have qc := Hc.out.1
  have fc := Hc.out.2.1
  have qd := Hd.out.1
  have fd := Hd.out.2.1
  have qe := He.out.1
  have fe := He.out.2.1
  have qf := Hf.out.1
  have ff := Hf.out.2.1
  have qg := Hg.out.1
  have fg := Hg.out.2.1
  have qh := Hh.out.1
  have fh := Hh.out.2.1
  go_wp2_with fail
  clear qc fc qd fd qe fe qf ff qg fg qh fh
  go_at_call 16
  refine (or_at x 1 (or_false' HGD.out Ox.out) HGD.out (by have := HL.out; omega) Mx.out (by omega) Hc.out.2.2).mono ?_
  rintro e V14 ⟨a14, c14, rfl, hr, g⟩
  replace Hc := Lib.hid (Hc.out.grown g)
  replace Hd := Lib.hid (Hd.out.grown g)
  replace He := Lib.hid (He.out.grown g)
  replace Hf := Lib.hid (Hf.out.grown g)
  replace Hg := Lib.hid (Hg.out.grown g)
  replace Hh := Lib.hid (Hh.out.grown g)
  replace HRI := Lib.hid (HRI.out.grown g)
  replace HG := Lib.hid (World.grownBy.trans HG.out g)
  clear g
  have qc := Hc.out.1
  have fc := Hc.out.2.1
  have qd := Hd.out.1
  have fd := Hd.out.2.1
  have qe := He.out.1
  have fe := He.out.2.1
  have qf := Hf.out.1
  have ff := Hf.out.2.1
  have qg := Hg.out.1
  have fg := Hg.out.2.1
  have qh := Hh.out.1
  have fh := Hh.out.2.1
  go_upto_region 13 with fail
  clear qc fc qd fd qe fe qf ff qg fg qh fh
  have hb := CB.new hr
  have g := World.grownBy_alloc V14 (.cells #[.slice a14 g0.length c14] 25) none
  obtain ⟨V15, hV15⟩ : ∃ z, World.alloc V14 (.cells #[.slice a14 g0.length c14] 25) = z := ⟨_, rfl⟩
  rw [hV15] at g hb ⊢
  clear hV15 hr
  obtain ⟨bi, hbb⟩ : ∃ b, V14.heap.size = b := ⟨_, rfl⟩
  rw [hbb] at hb ⊢
  have Li := Lib.hid (Nat.le_of_eq hbb)
  have Zi := Lib.hid (Nat.le_trans (World.grownBy.size HG.out) (Nat.le_of_eq hbb))
  clear hbb
  replace Hc := Lib.hid (Hc.out.grown g)
  replace Hd := Lib.hid (Hd.out.grown g)
  replace He := Lib.hid (He.out.grown g)
  replace Hf := Lib.hid (Hf.out.grown g)
  replace Hg := Lib.hid (Hg.out.grown g)
  replace Hh := Lib.hid (Hh.out.grown g)
  replace HRI := Lib.hid (HRI.out.grown g)
  replace HG := Lib.hid (World.grownBy.trans HG.out g)
  clear g
  have Hi := Lib.hid hb
  clear hb
  have qc := Hc.out.1
  have fc := Hc.out.2.1
  have qd := Hd.out.1
  have fd := Hd.out.2.1
  have qe := He.out.1
  have fe := He.out.2.1
  have qf := Hf.out.1
  have ff := Hf.out.2.1
  have qg := Hg.out.1
  have fg := Hg.out.2.1
  have qh := Hh.out.1
  have fh := Hh.out.2.1
  have qi := Hi.out.1
  have fi := Hi.out.2.1
  go_wp2_with fail
  clear qc fc qd fd qe fe qf ff qg fg qh fh qi fi
  go_at_call 18
  refine (iff_at x x (iff_self' HGD.out Ox.out) HGD.out (by have := HL.out; omega) Mx.out Mx.out Hc.out.2.2).mono ?_
  rintro e V16 ⟨a16, c16, rfl, hr, g⟩
  replace Hc := Lib.hid (Hc.out.grown g)
  replace Hd := Lib.hid (Hd.out.grown g)
  replace He := Lib.hid (He.out.grown g)
  replace Hf := Lib.hid (Hf.out.grown g)
  replace Hg := Lib.hid (Hg.out.grown g)
  replace Hh := Lib.hid (Hh.out.grown g)
  replace Hi := Lib.hid (Hi.out.grown g)
  replace HRI := Lib.hid (HRI.out.grown g)
  replace HG := Lib.hid (World.grownBy.trans HG.out g)
  clear g
  have qc := Hc.out.1
  have fc := Hc.out.2.1
  have qd := Hd.out.1
  have fd := Hd.out.2.1
  have qe := He.out.1
  have fe := He.out.2.1
  have qf := Hf.out.1
  have ff := Hf.out.2.1
  have qg := Hg.out.1
  have fg := Hg.out.2.1
  have qh := Hh.out.1
  have fh := Hh.out.2.1
  have qi := Hi.out.1
  have fi := Hi.out.2.1
  go_upto_region 14 with fail
  clear qc fc qd fd qe fe qf ff qg fg qh fh qi fi
  have hb := CB.new hr
  have g := World.grownBy_alloc V16 (.cells #[.slice a16 g0.length c16] 25) none
  obtain ⟨V17, hV17⟩ : ∃ z, World.alloc V16 (.cells #[.slice a16 g0.length c16] 25) = z := ⟨_, rfl⟩
  rw [hV17] at g hb ⊢
  clear hV17 hr
  obtain ⟨bj, hbb⟩ : ∃ b, V16.heap.size = b := ⟨_, rfl⟩
  rw [hbb] at hb ⊢
  have Lj := Lib.hid (Nat.le_of_eq hbb)
  have Zj := Lib.hid (Nat.le_trans (World.grownBy.size HG.out) (Nat.le_of_eq hbb))
  clear hbb
  replace Hc := Lib.hid (Hc.out.grown g)
  replace Hd := Lib.hid (Hd.out.grown g)
  replace He := Lib.hid (He.out.grown g)
  replace Hf := Lib.hid (Hf.out.grown g)
  replace Hg := Lib.hid (Hg.out.grown g)
  replace Hh := Lib.hid (Hh.out.grown g)
  replace Hi := Lib.hid (Hi.out.grown g)
  replace HRI := Lib.hid (HRI.out.grown g)
  replace HG := Lib.hid (World.grownBy.trans HG.out g)
  clear g
  have Hj := Lib.hid hb
  clear hb
  have qc := Hc.out.1
  have fc := Hc.out.2.1
  have qd := Hd.out.1
  have fd := Hd.out.2.1
  have qe := He.out.1
  have fe := He.out.2.1
  have qf := Hf.out.1
  have ff := Hf.out.2.1
  have qg := Hg.out.1
  have fg := Hg.out.2.1
  have qh := Hh.out.1
  have fh := Hh.out.2.1
  have qi := Hi.out.1
  have fi := Hi.out.2.1
  have qj := Hj.out.1
  have fj := Hj.out.2.1
  go_wp2_with fail
  clear qc fc qd fd qe fe qf ff qg fg qh fh qi fi qj fj
  go_at_call 18
  refine (iff_at x 0 (iff_true' HGD.out Ox.out) HGD.out (by have := HL.out; omega) Mx.out (by omega) Hc.out.2.2).mono ?_
  rintro e V18 ⟨a18, c18, rfl, hr, g⟩
  replace Hc := Lib.hid (Hc.out.grown g)
  replace Hd := Lib.hid (Hd.out.grown g)
  replace He := Lib.hid (He.out.grown g)
  replace Hf := Lib.hid (Hf.out.grown g)
  replace Hg := Lib.hid (Hg.out.grown g)
  replace Hh := Lib.hid (Hh.out.grown g)
  replace Hi := Lib.hid (Hi.out.grown g)
  replace Hj := Lib.hid (Hj.out.grown g)
  replace HRI := Lib.hid (HRI.out.grown g)
  replace HG := Lib.hid (World.grownBy.trans HG.out g)
  clear g
  have qc := Hc.out.1
  have fc := Hc.out.2.1
  have qd := Hd.out.1
  have fd := Hd.out.2.1
  have qe := He.out.1
  have fe := He.out.2.1
  have qf := Hf.out.1
  have ff := Hf.out.2.1
  have qg := Hg.out.1
  have fg := Hg.out.2.1
  have qh := Hh.out.1
  have fh := Hh.out.2.1
  have qi := Hi.out.1
  have fi := Hi.out.2.1
  have qj := Hj.out.1
  have fj := Hj.out.2.1
  go_upto_region 15 with fail
  clear qc fc qd fd qe fe qf ff qg fg qh fh qi fi qj fj
  have hb := CB.new hr
  have g := World.grownBy_alloc V18 (.cells #[.slice a18 g0.length c18] 25) none
  obtain ⟨V19, hV19⟩ : ∃ z, World.alloc V18 (.cells #[.slice a18 g0.length c18] 25) = z := ⟨_, rfl⟩
  rw [hV19] at g hb ⊢
  clear hV19 hr
  obtain ⟨bk, hbb⟩ : ∃ b, V18.heap.size = b := ⟨_, rfl⟩
  rw [hbb] at hb ⊢
  have Lk := Lib.hid (Nat.le_of_eq hbb)
  have Zk := Lib.hid (Nat.le_trans (World.grownBy.size HG.out) (Nat.le_of_eq hbb))
  clear hbb
  replace Hc := Lib.hid (Hc.out.grown g)
  replace Hd := Lib.hid (Hd.out.grown g)
  replace He := Lib.hid (He.out.grown g)
  replace Hf := Lib.hid (Hf.out.grown g)
  replace Hg := Lib.hid (Hg.out.grown g)
  replace Hh := Lib.hid (Hh.out.grown g)
  replace Hi := Lib.hid (Hi.out.grown g)
  replace Hj := Lib.hid (Hj.out.grown g)
  replace HRI := Lib.hid (HRI.out.grown g)
  replace HG := Lib.hid (World.grownBy.trans HG.out g)
  clear g
  have Hk := Lib.hid hb
  clear hb
  have qc := Hc.out.1
  have fc := Hc.out.2.1
  have qd := Hd.out.1
  have fd := Hd.out.2.1
  have qe := He.out.1
  have fe := He.out.2.1
  have qf := Hf.out.1
  have ff := Hf.out.2.1
  have qg := Hg.out.1
  have fg := Hg.out.2.1
  have qh := Hh.out.1
  have fh := Hh.out.2.1
  have qi := Hi.out.1
  have fi := Hi.out.2.1
  have qj := Hj.out.1
  have fj := Hj.out.2.1
  have qk := Hk.out.1
  have fk := Hk.out.2.1
  go_wp2_with fail
  clear qc fc qd fd qe fe qf ff qg fg qh fh qi fi qj fj qk fk
  have HNQ := not_at (w := V19) nx Mnx.out
  rw [Inx.out] at HNQ
  go_at_call 25
  refine (HNQ).mono ?_
  rintro e w9 ⟨rfl, hw9⟩
  rw [hw9]
  clear hw9 w9
  clear HNQ
  go_wp2_with fail
  go_ret
  exact ⟨rfl, HG.out⟩
end Go.Proofs.Ytllljcbdinckgaa
