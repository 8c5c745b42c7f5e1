/- The law: repeated and exchanged calls append no gate. -/
import Derived.Test.YtllljcbdinckgaaD2
import Derived.Test.YtllljcbdinckgaaH4
namespace Go.Proofs.Ytllljcbdinckgaa
open Go.RowKit

set_option maxRecDepth 100000 in
set_option maxHeartbeats 4000000 in
theorem shares_calls (l : List Stp) (sa : Option Addr) (sc : Nat) (n m : Nat) (w : World) (h : StpsW w sa sc l) (hs : ∀ s ∈ l, StpOk s) (hn : n < 256) (hm : m < 256) :
    Calls Try.prog 7 #[.slice sa l.length sc, .int .u8 (n : Int), .int .u8 (m : Int)] w fun e w' => e = .returned (.bool true) ∧ w.grownBy w' none := by
  obtain ⟨N, hN⟩ : ∃ N, l.length = N := ⟨_, rfl⟩
  have HS := Lib.hid (And.intro h hs)
  have HN := Lib.hid hN
  rw [hN]
  clear h hs hN
  by_cases h60 : 60 < N
  · have f1 : decide ((60 : Int) < (N : Int)) = true := decide_eq_true (by omega)
    have f2 : decide (60 < N) = true := decide_eq_true h60
    go_enter Try.func7, Try.ntmps7
    go_wp2_with fail
    go_at_call 10
    refine (head_calls _).mono ?_
    rintro e V1 ⟨rfl, g⟩
    go_wp2_with fail
    go_ret
    exact ⟨rfl, g⟩
  have f1 : decide ((60 : Int) < (N : Int)) = false := decide_eq_false (by omega)
  have f2 : decide (60 < N) = false := decide_eq_false h60
  obtain ⟨p, hp⟩ : ∃ p, buildC l = p := ⟨_, rfl⟩
  obtain ⟨g0, refs⟩ := p
  have HB := Lib.hid (show Built (g0, refs) N by have := built l (by rw [HN.out]; omega); rw [hp, HN.out] at this; exact this)
  have HP := Lib.hid hp
  clear hp
  have HG := Lib.hid (grown_refl w none)
  have HGD := Lib.hid (show Good g0 from HB.out.good)
  have HL := Lib.hid (show g0.length ≤ 181 from by have := HB.out.len; simp only at this; omega)
  have HRL := Lib.hid (show refs.length = N from HB.out.refs)
  have HRO := Lib.hid (show ∀ r ∈ refs, Ok g0 r from HB.out.ok)
  go_enter Try.func7, Try.ntmps7
  go_wp2_with fail
  go_at_call 10
  refine (head_calls _).mono ?_
  rintro e V1 ⟨rfl, g⟩
  replace HG := Lib.hid (World.grownBy.trans HG.out g)
  clear g
  go_wp2_with fail
  go_at_call 29
  have HBC := Lib.hid (build_calls l sa sc V1 HP.out (HS.out.1.grown HG.out) (by rw [HN.out]; omega) HS.out.2)
  rw [HN.out] at HBC
  refine HBC.out.mono ?_
  rintro e V2 ⟨a2, c2, ra, rc, rfl, hr, hri, g⟩
  replace HG := Lib.hid (World.grownBy.trans HG.out g)
  clear g
  have HRI := Lib.hid hri
  clear hri HBC
  go_upto_region 5 with fail
  have hb := CB.new hr
  have g := World.grownBy_alloc V2 (.cells #[.slice a2 g0.length c2] 25) none
  obtain ⟨V3, hV3⟩ : ∃ z, World.alloc V2 (.cells #[.slice a2 g0.length c2] 25) = z := ⟨_, rfl⟩
  rw [hV3] at g hb ⊢
  clear hV3 hr
  obtain ⟨bc, hbb⟩ : ∃ b, V2.heap.size = b := ⟨_, rfl⟩
  rw [hbb] at hb ⊢
  have Lc := Lib.hid (Nat.le_of_eq hbb)
  have Zc := Lib.hid (Nat.le_trans (World.grownBy.size HG.out) (Nat.le_of_eq hbb))
  clear hbb
  replace HRI := Lib.hid (HRI.out.grown g)
  replace HG := Lib.hid (World.grownBy.trans HG.out g)
  clear g
  have Hc := Lib.hid hb
  clear hb
  clear f1 f2
  have qc := Hc.out.1
  have fc := Hc.out.2.1
  go_wp2_with fail
  clear qc fc
  go_at_call 30
  have HPC := Lib.hid (pick_calls refs n ra rc V3 HRI.out (by rw [HRL.out]; omega) hn (ok_le (by have := HL.out; omega) HRO.out))
  obtain ⟨x, hx⟩ : ∃ x, pickL refs n = x := ⟨_, rfl⟩
  rw [hx] at HPC
  have Ox := Lib.hid (show Ok g0 x from by rw [← hx]; exact pick_ok HGD.out.pos HRO.out n)
  have Mx := Lib.hid (show x ≤ 9223372036854775807 from by have := Ox.out.2; have := HL.out; omega)
  have Ex := Lib.hid hx
  clear hx
  refine HPC.out.mono ?_
  rintro e w9 ⟨rfl, hw9⟩
  rw [hw9]
  clear hw9 w9 HPC
  have qc := Hc.out.1
  have fc := Hc.out.2.1
  go_wp2_with fail
  clear qc fc
  go_at_call 30
  have HPC := Lib.hid (pick_calls refs m ra rc V3 HRI.out (by rw [HRL.out]; omega) hm (ok_le (by have := HL.out; omega) HRO.out))
  obtain ⟨y, hy⟩ : ∃ x, pickL refs m = x := ⟨_, rfl⟩
  rw [hy] at HPC
  have Oy := Lib.hid (show Ok g0 y from by rw [← hy]; exact pick_ok HGD.out.pos HRO.out m)
  have My := Lib.hid (show y ≤ 9223372036854775807 from by have := Oy.out.2; have := HL.out; omega)
  have Ey := Lib.hid hy
  clear hy
  refine HPC.out.mono ?_
  rintro e w9 ⟨rfl, hw9⟩
  rw [hw9]
  clear hw9 w9 HPC
  obtain ⟨g1, r1, e1⟩ : ∃ g r, andC g0 x y = (g, r) := ⟨_, _, rfl⟩
  have S1 := step_and HGD.out x y
  have K1 := and_len (gs := g0) x y
  have A1 := and_again (gs := g0) (hs := g1) (by have := HL.out; omega) (by rw [e1] at S1; exact S1.good) Ox.out Oy.out (by rw [e1]; exact List.prefix_refl _) (by rw [e1] at S1; exact S1.pre)
  have A2 := A1
  rw [and_comm'] at A2
  rw [e1] at S1 K1 A1 A2
  obtain ⟨g2, r2, e2⟩ : ∃ g r, orC g0 x y = (g, r) := ⟨_, _, rfl⟩
  have S2 := step_or HGD.out x y
  have K2 := or_len (gs := g0) x y
  have A3 := or_again (gs := g0) (hs := g2) (by have := HL.out; omega) (by rw [e2] at S2; exact S2.good) Ox.out Oy.out (by rw [e2]; exact List.prefix_refl _) (by rw [e2] at S2; exact S2.pre)
  rw [or_comm'] at A3
  rw [e2] at S2 K2 A3
  obtain ⟨g3, r3, e3⟩ : ∃ g r, iffC g0 x y = (g, r) := ⟨_, _, rfl⟩
  have S3 := step_iff HGD.out x y
  have K3 := iff_len (gs := g0) x y
  have A4 := (iff_swap HGD.out (by have := HL.out; omega) Ox.out Oy.out).1
  rw [e3] at S3 K3 A4
  have hv1 : 1 ≤ (n : Int) % 8 + 1 ∧ (n : Int) % 8 + 1 ≤ 20000 := by omega
  obtain ⟨g4, r4, e4⟩ : ∃ g r, inputC g0 ((n : Int) % 8 + 1) = (g, r) := ⟨_, _, rfl⟩
  have S4 := step_input HGD.out ((n : Int) % 8 + 1)
  have K4 := input_len (gs := g0) ((n : Int) % 8 + 1)
  have A5 := input_again (gs := g0) (hs := g4) (by have := HL.out; omega) (by rw [e4] at S4; exact S4.good) hv1.1 hv1.2 (by rw [e4]; exact List.prefix_refl _)
  rw [e4] at S4 K4 A5
  have HE := Lib.hid (And.intro e1 (And.intro e2 (And.intro e3 e4)))
  have HA := Lib.hid (And.intro A1 (And.intro A2 (And.intro A3 (And.intro A4 A5))))
  have G1 := Lib.hid S1.good
  have G2 := Lib.hid S2.good
  have G3 := Lib.hid S3.good
  have G4 := Lib.hid S4.good
  have HK := Lib.hid (show g1.length ≤ g0.length + 1 ∧ g2.length ≤ g0.length + 1 ∧ g3.length ≤ g0.length + 3 ∧ g4.length ≤ g0.length + 1 from ⟨K1, K2, K3, K4⟩)
  have hwn : IntKind.i64.wrap (n : Int) = (n : Int) := IntWalk.i64_in _ (by omega)
  have hm8 : (n : Int).tmod 8 = ((n % 8 : Nat) : Int) := by rw [Int.tmod_eq_emod_of_nonneg (by omega)]; rfl
  have hw8 : IntKind.i64.wrap ((n % 8 : Nat) : Int) = ((n % 8 : Nat) : Int) := IntWalk.i64_in _ (by omega)
  have hw9 : IntKind.i64.wrap (((n % 8 : Nat) : Int) + 1) = ((n % 8 + 1 : Nat) : Int) := by rw [IntWalk.i64_in _ (by omega)]; omega
  have HWN := Lib.hid (And.intro hwn (And.intro hm8 (And.intro hw8 hw9)))
  clear e1 e2 e3 e4 S1 S2 S3 S4 K1 K2 K3 K4 A1 A2 A3 A4 A5 hv1 hwn hm8 hw8 hw9
  have qc := Hc.out.1
  have fc := Hc.out.2.1
  go_wp2_with fail
  clear qc fc
  go_at_call 14
  refine (and_at x y HE.out.1 HGD.out (by have := HL.out; have := HK.out; omega) Mx.out My.out Hc.out.2.2).mono ?_
  rintro e V4 ⟨a4, c4, rfl, hr, g⟩
  replace Hc := Lib.hid (Hc.out.grown g)
  replace HRI := Lib.hid (HRI.out.grown g)
  replace HG := Lib.hid (World.grownBy.trans HG.out g)
  clear g
  have qc := Hc.out.1
  have fc := Hc.out.2.1
  go_upto_region 8 with fail
  clear qc fc
  have hb := CB.new hr
  have g := World.grownBy_alloc V4 (.cells #[.slice a4 g1.length c4] 25) none
  obtain ⟨V5, hV5⟩ : ∃ z, World.alloc V4 (.cells #[.slice a4 g1.length c4] 25) = z := ⟨_, rfl⟩
  rw [hV5] at g hb ⊢
  clear hV5 hr
  obtain ⟨bd, hbb⟩ : ∃ b, V4.heap.size = b := ⟨_, rfl⟩
  rw [hbb] at hb ⊢
  have Ld := Lib.hid (Nat.le_of_eq hbb)
  have Zd := Lib.hid (Nat.le_trans (World.grownBy.size HG.out) (Nat.le_of_eq hbb))
  clear hbb
  replace Hc := Lib.hid (Hc.out.grown g)
  replace HRI := Lib.hid (HRI.out.grown g)
  replace HG := Lib.hid (World.grownBy.trans HG.out g)
  clear g
  have Hd := Lib.hid hb
  clear hb
  have qc := Hc.out.1
  have fc := Hc.out.2.1
  have qd := Hd.out.1
  have fd := Hd.out.2.1
  go_wp2_with fail
  clear qc fc qd fd
  go_at_call 14
  refine (and_at x y HA.out.1 G1.out (by have := HL.out; have := HK.out; omega) Mx.out My.out Hd.out.2.2).mono ?_
  rintro e V6 ⟨a6, c6, rfl, hr, g⟩
  replace Hc := Lib.hid (Hc.out.grown g)
  replace Hd := Lib.hid (Hd.out.grown g)
  replace HRI := Lib.hid (HRI.out.grown g)
  replace HG := Lib.hid (World.grownBy.trans HG.out g)
  clear g
  have qc := Hc.out.1
  have fc := Hc.out.2.1
  have qd := Hd.out.1
  have fd := Hd.out.2.1
  go_upto_region 9 with fail
  clear qc fc qd fd
  have hb := CB.new hr
  have g := World.grownBy_alloc V6 (.cells #[.slice a6 g1.length c6] 25) none
  obtain ⟨V7, hV7⟩ : ∃ z, World.alloc V6 (.cells #[.slice a6 g1.length c6] 25) = z := ⟨_, rfl⟩
  rw [hV7] at g hb ⊢
  clear hV7 hr
  obtain ⟨bd1, hbb⟩ : ∃ b, V6.heap.size = b := ⟨_, rfl⟩
  rw [hbb] at hb ⊢
  have Ld1 := Lib.hid (Nat.le_of_eq hbb)
  have Zd1 := Lib.hid (Nat.le_trans (World.grownBy.size HG.out) (Nat.le_of_eq hbb))
  clear hbb
  replace Hc := Lib.hid (Hc.out.grown g)
  replace Hd := Lib.hid (Hd.out.grown g)
  replace HRI := Lib.hid (HRI.out.grown g)
  replace HG := Lib.hid (World.grownBy.trans HG.out g)
  clear g
  have Hd1 := Lib.hid hb
  clear hb
  have qc := Hc.out.1
  have fc := Hc.out.2.1
  have qd := Hd.out.1
  have fd := Hd.out.2.1
  have qd1 := Hd1.out.1
  have fd1 := Hd1.out.2.1
  go_wp2_with fail
  clear qc fc qd fd qd1 fd1
  go_at_call 14
  refine (and_at y x HA.out.2.1 G1.out (by have := HL.out; have := HK.out; omega) My.out Mx.out Hd.out.2.2).mono ?_
  rintro e V8 ⟨a8, c8, rfl, hr, g⟩
  replace Hc := Lib.hid (Hc.out.grown g)
  replace Hd := Lib.hid (Hd.out.grown g)
  replace Hd1 := Lib.hid (Hd1.out.grown g)
  replace HRI := Lib.hid (HRI.out.grown g)
  replace HG := Lib.hid (World.grownBy.trans HG.out g)
  clear g
  have qc := Hc.out.1
  have fc := Hc.out.2.1
  have qd := Hd.out.1
  have fd := Hd.out.2.1
  have qd1 := Hd1.out.1
  have fd1 := Hd1.out.2.1
  go_upto_region 10 with fail
  clear qc fc qd fd qd1 fd1
  have hb := CB.new hr
  have g := World.grownBy_alloc V8 (.cells #[.slice a8 g1.length c8] 25) none
  obtain ⟨V9, hV9⟩ : ∃ z, World.alloc V8 (.cells #[.slice a8 g1.length c8] 25) = z := ⟨_, rfl⟩
  rw [hV9] at g hb ⊢
  clear hV9 hr
  obtain ⟨bd2, hbb⟩ : ∃ b, V8.heap.size = b := ⟨_, rfl⟩
  rw [hbb] at hb ⊢
  have Ld2 := Lib.hid (Nat.le_of_eq hbb)
  have Zd2 := Lib.hid (Nat.le_trans (World.grownBy.size HG.out) (Nat.le_of_eq hbb))
  clear hbb
  replace Hc := Lib.hid (Hc.out.grown g)
  replace Hd := Lib.hid (Hd.out.grown g)
  replace Hd1 := Lib.hid (Hd1.out.grown g)
  replace HRI := Lib.hid (HRI.out.grown g)
  replace HG := Lib.hid (World.grownBy.trans HG.out g)
  clear g
  have Hd2 := Lib.hid hb
  clear hb
  have qc := Hc.out.1
  have fc := Hc.out.2.1
  have qd := Hd.out.1
  have fd := Hd.out.2.1
  have qd1 := Hd1.out.1
  have fd1 := Hd1.out.2.1
  have qd2 := Hd2.out.1
  have fd2 := Hd2.out.2.1
  go_wp2_with fail
  clear qc fc qd fd qd1 fd1 qd2 fd2
  go_at_call 16
  refine (or_at x y HE.out.2.1 HGD.out (by have := HL.out; have := HK.out; omega) Mx.out My.out Hc.out.2.2).mono ?_
  rintro e V10 ⟨a10, c10, rfl, hr, g⟩
  replace Hc := Lib.hid (Hc.out.grown g)
  replace Hd := Lib.hid (Hd.out.grown g)
  replace Hd1 := Lib.hid (Hd1.out.grown g)
  replace Hd2 := Lib.hid (Hd2.out.grown g)
  replace HRI := Lib.hid (HRI.out.grown g)
  replace HG := Lib.hid (World.grownBy.trans HG.out g)
  clear g
  have qc := Hc.out.1
  have fc := Hc.out.2.1
  have qd := Hd.out.1
  have fd := Hd.out.2.1
  have qd1 := Hd1.out.1
  have fd1 := Hd1.out.2.1
  have qd2 := Hd2.out.1
  have fd2 := Hd2.out.2.1
  go_upto_region 11 with fail
  clear qc fc qd fd qd1 fd1 qd2 fd2
  have hb := CB.new hr
  have g := World.grownBy_alloc V10 (.cells #[.slice a10 g2.length c10] 25) none
  obtain ⟨V11, hV11⟩ : ∃ z, World.alloc V10 (.cells #[.slice a10 g2.length c10] 25) = z := ⟨_, rfl⟩
  rw [hV11] at g hb ⊢
  clear hV11 hr
  obtain ⟨be, hbb⟩ : ∃ b, V10.heap.size = b := ⟨_, rfl⟩
  rw [hbb] at hb ⊢
  have Le := Lib.hid (Nat.le_of_eq hbb)
  have Ze := Lib.hid (Nat.le_trans (World.grownBy.size HG.out) (Nat.le_of_eq hbb))
  clear hbb
  replace Hc := Lib.hid (Hc.out.grown g)
  replace Hd := Lib.hid (Hd.out.grown g)
  replace Hd1 := Lib.hid (Hd1.out.grown g)
  replace Hd2 := Lib.hid (Hd2.out.grown g)
  replace HRI := Lib.hid (HRI.out.grown g)
  replace HG := Lib.hid (World.grownBy.trans HG.out g)
  clear g
  have He := Lib.hid hb
  clear hb
  have qc := Hc.out.1
  have fc := Hc.out.2.1
  have qd := Hd.out.1
  have fd := Hd.out.2.1
  have qd1 := Hd1.out.1
  have fd1 := Hd1.out.2.1
  have qd2 := Hd2.out.1
  have fd2 := Hd2.out.2.1
  have qe := He.out.1
  have fe := He.out.2.1
  go_wp2_with fail
  clear qc fc qd fd qd1 fd1 qd2 fd2 qe fe
  go_at_call 16
  refine (or_at y x HA.out.2.2.1 G2.out (by have := HL.out; have := HK.out; omega) My.out Mx.out He.out.2.2).mono ?_
  rintro e V12 ⟨a12, c12, rfl, hr, g⟩
  replace Hc := Lib.hid (Hc.out.grown g)
  replace Hd := Lib.hid (Hd.out.grown g)
  replace Hd1 := Lib.hid (Hd1.out.grown g)
  replace Hd2 := Lib.hid (Hd2.out.grown g)
  replace He := Lib.hid (He.out.grown g)
  replace HRI := Lib.hid (HRI.out.grown g)
  replace HG := Lib.hid (World.grownBy.trans HG.out g)
  clear g
  have qc := Hc.out.1
  have fc := Hc.out.2.1
  have qd := Hd.out.1
  have fd := Hd.out.2.1
  have qd1 := Hd1.out.1
  have fd1 := Hd1.out.2.1
  have qd2 := Hd2.out.1
  have fd2 := Hd2.out.2.1
  have qe := He.out.1
  have fe := He.out.2.1
  go_upto_region 12 with fail
  clear qc fc qd fd qd1 fd1 qd2 fd2 qe fe
  have hb := CB.new hr
  have g := World.grownBy_alloc V12 (.cells #[.slice a12 g2.length c12] 25) none
  obtain ⟨V13, hV13⟩ : ∃ z, World.alloc V12 (.cells #[.slice a12 g2.length c12] 25) = z := ⟨_, rfl⟩
  rw [hV13] at g hb ⊢
  clear hV13 hr
  obtain ⟨be1, hbb⟩ : ∃ b, V12.heap.size = b := ⟨_, rfl⟩
  rw [hbb] at hb ⊢
  have Le1 := Lib.hid (Nat.le_of_eq hbb)
  have Ze1 := Lib.hid (Nat.le_trans (World.grownBy.size HG.out) (Nat.le_of_eq hbb))
  clear hbb
  replace Hc := Lib.hid (Hc.out.grown g)
  replace Hd := Lib.hid (Hd.out.grown g)
  replace Hd1 := Lib.hid (Hd1.out.grown g)
  replace Hd2 := Lib.hid (Hd2.out.grown g)
  replace He := Lib.hid (He.out.grown g)
  replace HRI := Lib.hid (HRI.out.grown g)
  replace HG := Lib.hid (World.grownBy.trans HG.out g)
  clear g
  have He1 := Lib.hid hb
  clear hb
  have qc := Hc.out.1
  have fc := Hc.out.2.1
  have qd := Hd.out.1
  have fd := Hd.out.2.1
  have qd1 := Hd1.out.1
  have fd1 := Hd1.out.2.1
  have qd2 := Hd2.out.1
  have fd2 := Hd2.out.2.1
  have qe := He.out.1
  have fe := He.out.2.1
  have qe1 := He1.out.1
  have fe1 := He1.out.2.1
  go_wp2_with fail
  clear qc fc qd fd qd1 fd1 qd2 fd2 qe fe qe1 fe1
  go_at_call 18
  refine (iff_at x y HE.out.2.2.1 HGD.out (by have := HL.out; have := HK.out; omega) Mx.out My.out Hc.out.2.2).mono ?_
  rintro e V14 ⟨a14, c14, rfl, hr, g⟩
  replace Hc := Lib.hid (Hc.out.grown g)
  replace Hd := Lib.hid (Hd.out.grown g)
  replace Hd1 := Lib.hid (Hd1.out.grown g)
  replace Hd2 := Lib.hid (Hd2.out.grown g)
  replace He := Lib.hid (He.out.grown g)
  replace He1 := Lib.hid (He1.out.grown g)
  replace HRI := Lib.hid (HRI.out.grown g)
  replace HG := Lib.hid (World.grownBy.trans HG.out g)
  clear g
  have qc := Hc.out.1
  have fc := Hc.out.2.1
  have qd := Hd.out.1
  have fd := Hd.out.2.1
  have qd1 := Hd1.out.1
  have fd1 := Hd1.out.2.1
  have qd2 := Hd2.out.1
  have fd2 := Hd2.out.2.1
  have qe := He.out.1
  have fe := He.out.2.1
  have qe1 := He1.out.1
  have fe1 := He1.out.2.1
  go_upto_region 13 with fail
  clear qc fc qd fd qd1 fd1 qd2 fd2 qe fe qe1 fe1
  have hb := CB.new hr
  have g := World.grownBy_alloc V14 (.cells #[.slice a14 g3.length c14] 25) none
  obtain ⟨V15, hV15⟩ : ∃ z, World.alloc V14 (.cells #[.slice a14 g3.length c14] 25) = z := ⟨_, rfl⟩
  rw [hV15] at g hb ⊢
  clear hV15 hr
  obtain ⟨bf, hbb⟩ : ∃ b, V14.heap.size = b := ⟨_, rfl⟩
  rw [hbb] at hb ⊢
  have Lf := Lib.hid (Nat.le_of_eq hbb)
  have Zf := Lib.hid (Nat.le_trans (World.grownBy.size HG.out) (Nat.le_of_eq hbb))
  clear hbb
  replace Hc := Lib.hid (Hc.out.grown g)
  replace Hd := Lib.hid (Hd.out.grown g)
  replace Hd1 := Lib.hid (Hd1.out.grown g)
  replace Hd2 := Lib.hid (Hd2.out.grown g)
  replace He := Lib.hid (He.out.grown g)
  replace He1 := Lib.hid (He1.out.grown g)
  replace HRI := Lib.hid (HRI.out.grown g)
  replace HG := Lib.hid (World.grownBy.trans HG.out g)
  clear g
  have Hf := Lib.hid hb
  clear hb
  have qc := Hc.out.1
  have fc := Hc.out.2.1
  have qd := Hd.out.1
  have fd := Hd.out.2.1
  have qd1 := Hd1.out.1
  have fd1 := Hd1.out.2.1
  have qd2 := Hd2.out.1
  have fd2 := Hd2.out.2.1
  have qe := He.out.1
  have fe := He.out.2.1
  have qe1 := He1.out.1
  have fe1 := He1.out.2.1
  have qf := Hf.out.1
  have ff := Hf.out.2.1
  go_wp2_with fail
  clear qc fc qd fd qd1 fd1 qd2 fd2 qe fe qe1 fe1 qf ff
  go_at_call 18
  refine (iff_at y x HA.out.2.2.2.1 G3.out (by have := HL.out; have := HK.out; omega) My.out Mx.out Hf.out.2.2).mono ?_
  rintro e V16 ⟨a16, c16, rfl, hr, g⟩
  replace Hc := Lib.hid (Hc.out.grown g)
  replace Hd := Lib.hid (Hd.out.grown g)
  replace Hd1 := Lib.hid (Hd1.out.grown g)
  replace Hd2 := Lib.hid (Hd2.out.grown g)
  replace He := Lib.hid (He.out.grown g)
  replace He1 := Lib.hid (He1.out.grown g)
  replace Hf := Lib.hid (Hf.out.grown g)
  replace HRI := Lib.hid (HRI.out.grown g)
  replace HG := Lib.hid (World.grownBy.trans HG.out g)
  clear g
  have qc := Hc.out.1
  have fc := Hc.out.2.1
  have qd := Hd.out.1
  have fd := Hd.out.2.1
  have qd1 := Hd1.out.1
  have fd1 := Hd1.out.2.1
  have qd2 := Hd2.out.1
  have fd2 := Hd2.out.2.1
  have qe := He.out.1
  have fe := He.out.2.1
  have qe1 := He1.out.1
  have fe1 := He1.out.2.1
  have qf := Hf.out.1
  have ff := Hf.out.2.1
  go_upto_region 14 with fail
  clear qc fc qd fd qd1 fd1 qd2 fd2 qe fe qe1 fe1 qf ff
  have hb := CB.new hr
  have g := World.grownBy_alloc V16 (.cells #[.slice a16 g3.length c16] 25) none
  obtain ⟨V17, hV17⟩ : ∃ z, World.alloc V16 (.cells #[.slice a16 g3.length c16] 25) = z := ⟨_, rfl⟩
  rw [hV17] at g hb ⊢
  clear hV17 hr
  obtain ⟨bf1, hbb⟩ : ∃ b, V16.heap.size = b := ⟨_, rfl⟩
  rw [hbb] at hb ⊢
  have Lf1 := Lib.hid (Nat.le_of_eq hbb)
  have Zf1 := Lib.hid (Nat.le_trans (World.grownBy.size HG.out) (Nat.le_of_eq hbb))
  clear hbb
  replace Hc := Lib.hid (Hc.out.grown g)
  replace Hd := Lib.hid (Hd.out.grown g)
  replace Hd1 := Lib.hid (Hd1.out.grown g)
  replace Hd2 := Lib.hid (Hd2.out.grown g)
  replace He := Lib.hid (He.out.grown g)
  replace He1 := Lib.hid (He1.out.grown g)
  replace Hf := Lib.hid (Hf.out.grown g)
  replace HRI := Lib.hid (HRI.out.grown g)
  replace HG := Lib.hid (World.grownBy.trans HG.out g)
  clear g
  have Hf1 := Lib.hid hb
  clear hb
  have qc := Hc.out.1
  have fc := Hc.out.2.1
  have qd := Hd.out.1
  have fd := Hd.out.2.1
  have qd1 := Hd1.out.1
  have fd1 := Hd1.out.2.1
  have qd2 := Hd2.out.1
  have fd2 := Hd2.out.2.1
  have qe := He.out.1
  have fe := He.out.2.1
  have qe1 := He1.out.1
  have fe1 := He1.out.2.1
  have qf := Hf.out.1
  have ff := Hf.out.2.1
  have qf1 := Hf1.out.1
  have ff1 := Hf1.out.2.1
  have ⟨hwn, hm8, hw8, hw9⟩ := HWN.out
  go_wp2_with fail
  clear qc fc qd fd qd1 fd1 qd2 fd2 qe fe qe1 fe1 qf ff qf1 ff1
  go_at_call 12
  refine (input_at ((n : Int) % 8 + 1) HE.out.2.2.2 HGD.out (by have := HL.out; have := HK.out; omega) Hc.out.2.2).mono ?_
  rintro e V18 ⟨a18, c18, rfl, hr, g⟩
  replace Hc := Lib.hid (Hc.out.grown g)
  replace Hd := Lib.hid (Hd.out.grown g)
  replace Hd1 := Lib.hid (Hd1.out.grown g)
  replace Hd2 := Lib.hid (Hd2.out.grown g)
  replace He := Lib.hid (He.out.grown g)
  replace He1 := Lib.hid (He1.out.grown g)
  replace Hf := Lib.hid (Hf.out.grown g)
  replace Hf1 := Lib.hid (Hf1.out.grown g)
  replace HRI := Lib.hid (HRI.out.grown g)
  replace HG := Lib.hid (World.grownBy.trans HG.out g)
  clear g
  have qc := Hc.out.1
  have fc := Hc.out.2.1
  have qd := Hd.out.1
  have fd := Hd.out.2.1
  have qd1 := Hd1.out.1
  have fd1 := Hd1.out.2.1
  have qd2 := Hd2.out.1
  have fd2 := Hd2.out.2.1
  have qe := He.out.1
  have fe := He.out.2.1
  have qe1 := He1.out.1
  have fe1 := He1.out.2.1
  have qf := Hf.out.1
  have ff := Hf.out.2.1
  have qf1 := Hf1.out.1
  have ff1 := Hf1.out.2.1
  go_upto_region 15 with fail
  clear qc fc qd fd qd1 fd1 qd2 fd2 qe fe qe1 fe1 qf ff qf1 ff1
  have hb := CB.new hr
  have g := World.grownBy_alloc V18 (.cells #[.slice a18 g4.length c18] 25) none
  obtain ⟨V19, hV19⟩ : ∃ z, World.alloc V18 (.cells #[.slice a18 g4.length c18] 25) = z := ⟨_, rfl⟩
  rw [hV19] at g hb ⊢
  clear hV19 hr
  obtain ⟨bg, hbb⟩ : ∃ b, V18.heap.size = b := ⟨_, rfl⟩
  rw [hbb] at hb ⊢
  have Lg := Lib.hid (Nat.le_of_eq hbb)
  have Zg := Lib.hid (Nat.le_trans (World.grownBy.size HG.out) (Nat.le_of_eq hbb))
  clear hbb
  replace Hc := Lib.hid (Hc.out.grown g)
  replace Hd := Lib.hid (Hd.out.grown g)
  replace Hd1 := Lib.hid (Hd1.out.grown g)
  replace Hd2 := Lib.hid (Hd2.out.grown g)
  replace He := Lib.hid (He.out.grown g)
  replace He1 := Lib.hid (He1.out.grown g)
  replace Hf := Lib.hid (Hf.out.grown g)
  replace Hf1 := Lib.hid (Hf1.out.grown g)
  replace HRI := Lib.hid (HRI.out.grown g)
  replace HG := Lib.hid (World.grownBy.trans HG.out g)
  clear g
  have Hg := Lib.hid hb
  clear hb
  have qc := Hc.out.1
  have fc := Hc.out.2.1
  have qd := Hd.out.1
  have fd := Hd.out.2.1
  have qd1 := Hd1.out.1
  have fd1 := Hd1.out.2.1
  have qd2 := Hd2.out.1
  have fd2 := Hd2.out.2.1
  have qe := He.out.1
  have fe := He.out.2.1
  have qe1 := He1.out.1
  have fe1 := He1.out.2.1
  have qf := Hf.out.1
  have ff := Hf.out.2.1
  have qf1 := Hf1.out.1
  have ff1 := Hf1.out.2.1
  have qg := Hg.out.1
  have fg := Hg.out.2.1
  have ⟨hwn, hm8, hw8, hw9⟩ := HWN.out
  go_wp2_with fail
  clear qc fc qd fd qd1 fd1 qd2 fd2 qe fe qe1 fe1 qf ff qf1 ff1 qg fg
  go_at_call 12
  refine (input_at ((n : Int) % 8 + 1) HA.out.2.2.2.2 G4.out (by have := HL.out; have := HK.out; omega) Hg.out.2.2).mono ?_
  rintro e V20 ⟨a20, c20, rfl, hr, g⟩
  replace Hc := Lib.hid (Hc.out.grown g)
  replace Hd := Lib.hid (Hd.out.grown g)
  replace Hd1 := Lib.hid (Hd1.out.grown g)
  replace Hd2 := Lib.hid (Hd2.out.grown g)
  replace He := Lib.hid (He.out.grown g)
  replace He1 := Lib.hid (He1.out.grown g)
  replace Hf := Lib.hid (Hf.out.grown g)
  replace Hf1 := Lib.hid (Hf1.out.grown g)
  replace Hg := Lib.hid (Hg.out.grown g)
  replace HRI := Lib.hid (HRI.out.grown g)
  replace HG := Lib.hid (World.grownBy.trans HG.out g)
  clear g
  have qc := Hc.out.1
  have fc := Hc.out.2.1
  have qd := Hd.out.1
  have fd := Hd.out.2.1
  have qd1 := Hd1.out.1
  have fd1 := Hd1.out.2.1
  have qd2 := Hd2.out.1
  have fd2 := Hd2.out.2.1
  have qe := He.out.1
  have fe := He.out.2.1
  have qe1 := He1.out.1
  have fe1 := He1.out.2.1
  have qf := Hf.out.1
  have ff := Hf.out.2.1
  have qf1 := Hf1.out.1
  have ff1 := Hf1.out.2.1
  have qg := Hg.out.1
  have fg := Hg.out.2.1
  go_upto_region 16 with fail
  clear qc fc qd fd qd1 fd1 qd2 fd2 qe fe qe1 fe1 qf ff qf1 ff1 qg fg
  have hb := CB.new hr
  have g := World.grownBy_alloc V20 (.cells #[.slice a20 g4.length c20] 25) none
  obtain ⟨V21, hV21⟩ : ∃ z, World.alloc V20 (.cells #[.slice a20 g4.length c20] 25) = z := ⟨_, rfl⟩
  rw [hV21] at g hb ⊢
  clear hV21 hr
  obtain ⟨bg1, hbb⟩ : ∃ b, V20.heap.size = b := ⟨_, rfl⟩
  rw [hbb] at hb ⊢
  have Lg1 := Lib.hid (Nat.le_of_eq hbb)
  have Zg1 := Lib.hid (Nat.le_trans (World.grownBy.size HG.out) (Nat.le_of_eq hbb))
  clear hbb
  replace Hc := Lib.hid (Hc.out.grown g)
  replace Hd := Lib.hid (Hd.out.grown g)
  replace Hd1 := Lib.hid (Hd1.out.grown g)
  replace Hd2 := Lib.hid (Hd2.out.grown g)
  replace He := Lib.hid (He.out.grown g)
  replace He1 := Lib.hid (He1.out.grown g)
  replace Hf := Lib.hid (Hf.out.grown g)
  replace Hf1 := Lib.hid (Hf1.out.grown g)
  replace Hg := Lib.hid (Hg.out.grown g)
  replace HRI := Lib.hid (HRI.out.grown g)
  replace HG := Lib.hid (World.grownBy.trans HG.out g)
  clear g
  have Hg1 := Lib.hid hb
  clear hb
  have qc := Hc.out.1
  have fc := Hc.out.2.1
  have qd := Hd.out.1
  have fd := Hd.out.2.1
  have qd1 := Hd1.out.1
  have fd1 := Hd1.out.2.1
  have qd2 := Hd2.out.1
  have fd2 := Hd2.out.2.1
  have qe := He.out.1
  have fe := He.out.2.1
  have qe1 := He1.out.1
  have fe1 := He1.out.2.1
  have qf := Hf.out.1
  have ff := Hf.out.2.1
  have qf1 := Hf1.out.1
  have ff1 := Hf1.out.2.1
  have qg := Hg.out.1
  have fg := Hg.out.2.1
  have qg1 := Hg1.out.1
  have fg1 := Hg1.out.2.1
  go_wp2_with fail
  clear qc fc qd fd qd1 fd1 qd2 fd2 qe fe qe1 fe1 qf ff qf1 ff1 qg fg qg1 fg1
  go_at_call 20
  refine (same_at (q := true) (decide_eq_true (rfl : g1 = g1)) (by have := HL.out; have := HK.out; omega) (by have := HL.out; have := HK.out; omega) Hd.out.2.2 Hd1.out.2.2).mono ?_
  rintro e V22 ⟨rfl, g⟩
  replace Hc := Lib.hid (Hc.out.grown g)
  replace Hd := Lib.hid (Hd.out.grown g)
  replace Hd1 := Lib.hid (Hd1.out.grown g)
  replace Hd2 := Lib.hid (Hd2.out.grown g)
  replace He := Lib.hid (He.out.grown g)
  replace He1 := Lib.hid (He1.out.grown g)
  replace Hf := Lib.hid (Hf.out.grown g)
  replace Hf1 := Lib.hid (Hf1.out.grown g)
  replace Hg := Lib.hid (Hg.out.grown g)
  replace Hg1 := Lib.hid (Hg1.out.grown g)
  replace HRI := Lib.hid (HRI.out.grown g)
  replace HG := Lib.hid (World.grownBy.trans HG.out g)
  clear g
  have qc := Hc.out.1
  have fc := Hc.out.2.1
  have qd := Hd.out.1
  have fd := Hd.out.2.1
  have qd1 := Hd1.out.1
  have fd1 := Hd1.out.2.1
  have qd2 := Hd2.out.1
  have fd2 := Hd2.out.2.1
  have qe := He.out.1
  have fe := He.out.2.1
  have qe1 := He1.out.1
  have fe1 := He1.out.2.1
  have qf := Hf.out.1
  have ff := Hf.out.2.1
  have qf1 := Hf1.out.1
  have ff1 := Hf1.out.2.1
  have qg := Hg.out.1
  have fg := Hg.out.2.1
  have qg1 := Hg1.out.1
  have fg1 := Hg1.out.2.1
  go_wp2_with fail
  clear qc fc qd fd qd1 fd1 qd2 fd2 qe fe qe1 fe1 qf ff qf1 ff1 qg fg qg1 fg1
  go_at_call 20
  refine (same_at (q := true) (decide_eq_true (rfl : g1 = g1)) (by have := HL.out; have := HK.out; omega) (by have := HL.out; have := HK.out; omega) Hd.out.2.2 Hd2.out.2.2).mono ?_
  rintro e V23 ⟨rfl, g⟩
  replace Hc := Lib.hid (Hc.out.grown g)
  replace Hd := Lib.hid (Hd.out.grown g)
  replace Hd1 := Lib.hid (Hd1.out.grown g)
  replace Hd2 := Lib.hid (Hd2.out.grown g)
  replace He := Lib.hid (He.out.grown g)
  replace He1 := Lib.hid (He1.out.grown g)
  replace Hf := Lib.hid (Hf.out.grown g)
  replace Hf1 := Lib.hid (Hf1.out.grown g)
  replace Hg := Lib.hid (Hg.out.grown g)
  replace Hg1 := Lib.hid (Hg1.out.grown g)
  replace HRI := Lib.hid (HRI.out.grown g)
  replace HG := Lib.hid (World.grownBy.trans HG.out g)
  clear g
  have qc := Hc.out.1
  have fc := Hc.out.2.1
  have qd := Hd.out.1
  have fd := Hd.out.2.1
  have qd1 := Hd1.out.1
  have fd1 := Hd1.out.2.1
  have qd2 := Hd2.out.1
  have fd2 := Hd2.out.2.1
  have qe := He.out.1
  have fe := He.out.2.1
  have qe1 := He1.out.1
  have fe1 := He1.out.2.1
  have qf := Hf.out.1
  have ff := Hf.out.2.1
  have qf1 := Hf1.out.1
  have ff1 := Hf1.out.2.1
  have qg := Hg.out.1
  have fg := Hg.out.2.1
  have qg1 := Hg1.out.1
  have fg1 := Hg1.out.2.1
  go_wp2_with fail
  clear qc fc qd fd qd1 fd1 qd2 fd2 qe fe qe1 fe1 qf ff qf1 ff1 qg fg qg1 fg1
  go_at_call 20
  refine (same_at (q := true) (decide_eq_true (rfl : g2 = g2)) (by have := HL.out; have := HK.out; omega) (by have := HL.out; have := HK.out; omega) He.out.2.2 He1.out.2.2).mono ?_
  rintro e V24 ⟨rfl, g⟩
  replace Hc := Lib.hid (Hc.out.grown g)
  replace Hd := Lib.hid (Hd.out.grown g)
  replace Hd1 := Lib.hid (Hd1.out.grown g)
  replace Hd2 := Lib.hid (Hd2.out.grown g)
  replace He := Lib.hid (He.out.grown g)
  replace He1 := Lib.hid (He1.out.grown g)
  replace Hf := Lib.hid (Hf.out.grown g)
  replace Hf1 := Lib.hid (Hf1.out.grown g)
  replace Hg := Lib.hid (Hg.out.grown g)
  replace Hg1 := Lib.hid (Hg1.out.grown g)
  replace HRI := Lib.hid (HRI.out.grown g)
  replace HG := Lib.hid (World.grownBy.trans HG.out g)
  clear g
  have qc := Hc.out.1
  have fc := Hc.out.2.1
  have qd := Hd.out.1
  have fd := Hd.out.2.1
  have qd1 := Hd1.out.1
  have fd1 := Hd1.out.2.1
  have qd2 := Hd2.out.1
  have fd2 := Hd2.out.2.1
  have qe := He.out.1
  have fe := He.out.2.1
  have qe1 := He1.out.1
  have fe1 := He1.out.2.1
  have qf := Hf.out.1
  have ff := Hf.out.2.1
  have qf1 := Hf1.out.1
  have ff1 := Hf1.out.2.1
  have qg := Hg.out.1
  have fg := Hg.out.2.1
  have qg1 := Hg1.out.1
  have fg1 := Hg1.out.2.1
  go_wp2_with fail
  clear qc fc qd fd qd1 fd1 qd2 fd2 qe fe qe1 fe1 qf ff qf1 ff1 qg fg qg1 fg1
  go_at_call 20
  refine (same_at (q := true) (decide_eq_true (rfl : g3 = g3)) (by have := HL.out; have := HK.out; omega) (by have := HL.out; have := HK.out; omega) Hf.out.2.2 Hf1.out.2.2).mono ?_
  rintro e V25 ⟨rfl, g⟩
  replace Hc := Lib.hid (Hc.out.grown g)
  replace Hd := Lib.hid (Hd.out.grown g)
  replace Hd1 := Lib.hid (Hd1.out.grown g)
  replace Hd2 := Lib.hid (Hd2.out.grown g)
  replace He := Lib.hid (He.out.grown g)
  replace He1 := Lib.hid (He1.out.grown g)
  replace Hf := Lib.hid (Hf.out.grown g)
  replace Hf1 := Lib.hid (Hf1.out.grown g)
  replace Hg := Lib.hid (Hg.out.grown g)
  replace Hg1 := Lib.hid (Hg1.out.grown g)
  replace HRI := Lib.hid (HRI.out.grown g)
  replace HG := Lib.hid (World.grownBy.trans HG.out g)
  clear g
  have qc := Hc.out.1
  have fc := Hc.out.2.1
  have qd := Hd.out.1
  have fd := Hd.out.2.1
  have qd1 := Hd1.out.1
  have fd1 := Hd1.out.2.1
  have qd2 := Hd2.out.1
  have fd2 := Hd2.out.2.1
  have qe := He.out.1
  have fe := He.out.2.1
  have qe1 := He1.out.1
  have fe1 := He1.out.2.1
  have qf := Hf.out.1
  have ff := Hf.out.2.1
  have qf1 := Hf1.out.1
  have ff1 := Hf1.out.2.1
  have qg := Hg.out.1
  have fg := Hg.out.2.1
  have qg1 := Hg1.out.1
  have fg1 := Hg1.out.2.1
  go_wp2_with fail
  clear qc fc qd fd qd1 fd1 qd2 fd2 qe fe qe1 fe1 qf ff qf1 ff1 qg fg qg1 fg1
  go_at_call 20
  refine (same_at (q := true) (decide_eq_true (rfl : g4 = g4)) (by have := HL.out; have := HK.out; omega) (by have := HL.out; have := HK.out; omega) Hg.out.2.2 Hg1.out.2.2).mono ?_
  rintro e V26 ⟨rfl, g⟩
  replace Hc := Lib.hid (Hc.out.grown g)
  replace Hd := Lib.hid (Hd.out.grown g)
  replace Hd1 := Lib.hid (Hd1.out.grown g)
  replace Hd2 := Lib.hid (Hd2.out.grown g)
  replace He := Lib.hid (He.out.grown g)
  replace He1 := Lib.hid (He1.out.grown g)
  replace Hf := Lib.hid (Hf.out.grown g)
  replace Hf1 := Lib.hid (Hf1.out.grown g)
  replace Hg := Lib.hid (Hg.out.grown g)
  replace Hg1 := Lib.hid (Hg1.out.grown g)
  replace HRI := Lib.hid (HRI.out.grown g)
  replace HG := Lib.hid (World.grownBy.trans HG.out g)
  clear g
  have hk := HK.out
  have hll := HL.out
  have u1 : IntKind.i64.wrap ((g0.length : Int) + 1) = (g0.length : Int) + 1 := IntWalk.i64_in _ (by omega)
  have u3 : IntKind.i64.wrap ((g0.length : Int) + 3) = (g0.length : Int) + 3 := IntWalk.i64_in _ (by omega)
  have u4 : decide ((g1.length : Int) ≤ (g0.length : Int) + 1) = true := decide_eq_true (by omega)
  have u5 : decide ((g3.length : Int) ≤ (g0.length : Int) + 3) = true := decide_eq_true (by omega)
  have u6 : decide (g1.length ≤ g0.length + 1) = true := decide_eq_true (by omega)
  have u7 : decide (g3.length ≤ g0.length + 3) = true := decide_eq_true (by omega)
  clear hk hll
  have qc := Hc.out.1
  have fc := Hc.out.2.1
  have qd := Hd.out.1
  have fd := Hd.out.2.1
  have qd1 := Hd1.out.1
  have fd1 := Hd1.out.2.1
  have qd2 := Hd2.out.1
  have fd2 := Hd2.out.2.1
  have qe := He.out.1
  have fe := He.out.2.1
  have qe1 := He1.out.1
  have fe1 := He1.out.2.1
  have qf := Hf.out.1
  have ff := Hf.out.2.1
  have qf1 := Hf1.out.1
  have ff1 := Hf1.out.2.1
  have qg := Hg.out.1
  have fg := Hg.out.2.1
  have qg1 := Hg1.out.1
  have fg1 := Hg1.out.2.1
  go_wp2_with fail
  clear qc fc qd fd qd1 fd1 qd2 fd2 qe fe qe1 fe1 qf ff qf1 ff1 qg fg qg1 fg1
  go_ret
  exact ⟨rfl, HG.out⟩
end Go.Proofs.Ytllljcbdinckgaa
