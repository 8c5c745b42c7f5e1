/- The law: the values are those of the operations. -/
import Derived.Test.YtllljcbdinckgaaD2
import Derived.Test.YtllljcbdinckgaaH4
namespace Go.Proofs.Ytllljcbdinckgaa
open Go.RowKit

theorem eval_at2 {gs : List Gt} {vals : List Bool} {a va : Option Addr} {c vc nv : Nat} {w : World} {q : Bool} (hn : vals.length = nv) (x : Int) (e : evalC gs vals x = q) (hl : gs.length ≤ 1000) (hl2 : vals.length ≤ 1000) (hb : ∀ g ∈ gs, g.2.1 ≤ 9223372036854775807 ∧ g.2.2 ≤ 9223372036854775807) (hr : x ≤ 9223372036854775807) (h : GatesW w a c gs) (hv : BoolsW w va vc vals) :
    Calls Try.prog 23 #[.agg #[.slice a gs.length c], .slice va nv vc, .int .i64 x] w fun x w' => x = .returned (.bool q) ∧ w.grownBy w' none := by
  subst hn
  exact eval_at x e hl hl2 hb hr h hv

set_option maxRecDepth 100000 in
set_option maxHeartbeats 4000000 in
theorem semantics_a_calls (l : List Stp) (sa : Option Addr) (sc : Nat) (n m k : Nat) (vals : List Bool) (va : Option Addr) (vc : Nat) (w : World) (h : StpsW w sa sc l) (hs : ∀ s ∈ l, StpOk s) (hn : n < 256) (hm : m < 256) (hk : k < 256) (hkv : (k : Int) % 20 + 1 ≤ (vals.length : Int)) (hv : BoolsW w va vc vals) :
    Calls Try.prog 5 #[.slice sa l.length sc, .int .u8 (n : Int), .int .u8 (m : Int), .int .u8 (k : Int), .slice va vals.length vc] w fun e w' => e = .returned (.bool true) ∧ w.grownBy w' none := by
  obtain ⟨N, hN⟩ : ∃ N, l.length = N := ⟨_, rfl⟩
  have HS := Lib.hid (And.intro h hs)
  have HN := Lib.hid hN
  obtain ⟨nv, hnv⟩ : ∃ n, vals.length = n := ⟨_, rfl⟩
  have HNV := Lib.hid hnv
  have HBV := Lib.hid hv
  rw [hN, hnv]
  rw [hnv] at hkv
  clear h hs hN hnv hv
  by_cases h60 : 60 < N
  · have f1 : decide ((60 : Int) < (N : Int)) = true := decide_eq_true (by omega)
    have f2 : decide (60 < N) = true := decide_eq_true h60
    go_enter Try.func5, Try.ntmps5
    go_wp2_with fail
    go_at_call 10
    refine (head_calls _).mono ?_
    rintro e V1 ⟨rfl, g⟩
    go_wp2_with fail
    go_ret
    exact ⟨rfl, g⟩
  have f1 : decide ((60 : Int) < (N : Int)) = false := decide_eq_false (by omega)
  have f2 : decide (60 < N) = false := decide_eq_false h60
  by_cases h61 : 60 < nv
  · have f3 : decide ((60 : Int) < (nv : Int)) = true := decide_eq_true (by omega)
    have f4 : decide (60 < nv) = true := decide_eq_true h61
    go_enter Try.func5, Try.ntmps5
    go_wp2_with fail
    go_at_call 10
    refine (head_calls _).mono ?_
    rintro e V1 ⟨rfl, g⟩
    go_wp2_with fail
    go_ret
    exact ⟨rfl, g⟩
  have f3 : decide ((60 : Int) < (nv : Int)) = false := decide_eq_false (by omega)
  have f4 : decide (60 < nv) = false := decide_eq_false h61
  obtain ⟨p, hp⟩ : ∃ p, buildC l = p := ⟨_, rfl⟩
  obtain ⟨g0, refs⟩ := p
  have HB := Lib.hid (show Built (g0, refs) N by have := built l (by rw [HN.out]; omega); rw [hp, HN.out] at this; exact this)
  have HP := Lib.hid hp
  clear hp
  have HG := Lib.hid (grown_refl w none)
  have HGD := Lib.hid (show Good g0 from HB.out.good)
  have HL := Lib.hid (show g0.length ≤ 181 from by have := HB.out.len; simp only at this; omega)
  have HRL := Lib.hid (show refs.length = N from HB.out.refs)
  have HRO := Lib.hid (show ∀ r ∈ refs, Ok g0 r from HB.out.ok)
  go_enter Try.func5, Try.ntmps5
  go_wp2_with fail
  go_at_call 10
  refine (head_calls _).mono ?_
  rintro e V1 ⟨rfl, g⟩
  replace HG := Lib.hid (World.grownBy.trans HG.out g)
  clear g
  go_wp2_with fail
  go_at_call 29
  have HBC := Lib.hid (build_calls l sa sc V1 HP.out (HS.out.1.grown HG.out) (by rw [HN.out]; omega) HS.out.2)
  rw [HN.out] at HBC
  refine HBC.out.mono ?_
  rintro e V2 ⟨a2, c2, ra, rc, rfl, hr, hri, g⟩
  replace HG := Lib.hid (World.grownBy.trans HG.out g)
  clear g
  have HRI := Lib.hid hri
  clear hri HBC
  replace HBV := Lib.hid (HBV.out.grown HG.out)
  go_upto_region 5 with fail
  have hb := CB.new hr
  have g := World.grownBy_alloc V2 (.cells #[.slice a2 g0.length c2] 25) none
  obtain ⟨V3, hV3⟩ : ∃ z, World.alloc V2 (.cells #[.slice a2 g0.length c2] 25) = z := ⟨_, rfl⟩
  rw [hV3] at g hb ⊢
  clear hV3 hr
  obtain ⟨bc, hbb⟩ : ∃ b, V2.heap.size = b := ⟨_, rfl⟩
  rw [hbb] at hb ⊢
  have Lc := Lib.hid (Nat.le_of_eq hbb)
  have Zc := Lib.hid (Nat.le_trans (World.grownBy.size HG.out) (Nat.le_of_eq hbb))
  clear hbb
  replace HRI := Lib.hid (HRI.out.grown g)
  replace HBV := Lib.hid (HBV.out.grown g)
  replace HG := Lib.hid (World.grownBy.trans HG.out g)
  clear g
  have Hc := Lib.hid hb
  clear hb
  clear f1 f2 f3 f4
  have qc := Hc.out.1
  have fc := Hc.out.2.1
  go_wp2_with fail
  clear qc fc
  go_at_call 30
  have HPC := Lib.hid (pick_calls refs n ra rc V3 HRI.out (by rw [HRL.out]; omega) hn (ok_le (by have := HL.out; omega) HRO.out))
  obtain ⟨x, hx⟩ : ∃ x, pickL refs n = x := ⟨_, rfl⟩
  rw [hx] at HPC
  have Ox := Lib.hid (show Ok g0 x from by rw [← hx]; exact pick_ok HGD.out.pos HRO.out n)
  have Mx := Lib.hid (show x ≤ 9223372036854775807 from by have := Ox.out.2; have := HL.out; omega)
  have Ex := Lib.hid hx
  clear hx
  refine HPC.out.mono ?_
  rintro e w9 ⟨rfl, hw9⟩
  rw [hw9]
  clear hw9 w9 HPC
  have qc := Hc.out.1
  have fc := Hc.out.2.1
  go_wp2_with fail
  clear qc fc
  go_at_call 30
  have HPC := Lib.hid (pick_calls refs m ra rc V3 HRI.out (by rw [HRL.out]; omega) hm (ok_le (by have := HL.out; omega) HRO.out))
  obtain ⟨y, hy⟩ : ∃ x, pickL refs m = x := ⟨_, rfl⟩
  rw [hy] at HPC
  have Oy := Lib.hid (show Ok g0 y from by rw [← hy]; exact pick_ok HGD.out.pos HRO.out m)
  have My := Lib.hid (show y ≤ 9223372036854775807 from by have := Oy.out.2; have := HL.out; omega)
  have Ey := Lib.hid hy
  clear hy
  refine HPC.out.mono ?_
  rintro e w9 ⟨rfl, hw9⟩
  rw [hw9]
  clear hw9 w9 HPC
  obtain ⟨p, hp⟩ : ∃ p, evalC g0 vals x = p := ⟨_, rfl⟩
  obtain ⟨q, hq⟩ : ∃ p, evalC g0 vals y = p := ⟨_, rfl⟩
  have HPQ := Lib.hid (And.intro hp hq)
  have hp1 := hp
  have hq1 := hq
  rw [eval_val Ox.out] at hp1
  rw [eval_val Oy.out] at hq1
  have HNT := Lib.hid (show evalC g0 vals (notR x) = !p by rw [eval_val (notR_ok Ox.out), val_not Ox.out, hp1])
  have HTR := Lib.hid (show evalC g0 vals 0 = true by rw [eval_val (one_ok HGD.out).2, val_true HGD.out])
  obtain ⟨g1, r1, e1⟩ : ∃ g r, andC g0 x y = (g, r) := ⟨_, _, rfl⟩
  have S1 := step_and HGD.out x y
  have K1 := and_len (gs := g0) x y
  have W1 := and_ok HGD.out (by have := HL.out; omega) Ox.out Oy.out
  have U1 := val_and HGD.out (by have := HL.out; omega) (values := vals) Ox.out Oy.out
  rw [e1] at S1 K1 W1 U1
  rw [← eval_val W1, hp1, hq1] at U1
  obtain ⟨g2, r2, e2⟩ : ∃ g r, orC g0 x y = (g, r) := ⟨_, _, rfl⟩
  have S2 := step_or HGD.out x y
  have K2 := or_len (gs := g0) x y
  have W2 := or_ok HGD.out (by have := HL.out; omega) Ox.out Oy.out
  have U2 := val_or HGD.out (by have := HL.out; omega) (values := vals) Ox.out Oy.out
  rw [e2] at S2 K2 W2 U2
  rw [← eval_val W2, hp1, hq1] at U2
  obtain ⟨g3, r3, e3⟩ : ∃ g r, iffC g0 x y = (g, r) := ⟨_, _, rfl⟩
  have S3 := step_iff HGD.out x y
  have K3 := iff_len (gs := g0) x y
  have W3 := iff_ok HGD.out (by have := HL.out; omega) Ox.out Oy.out
  have U3 := val_iff HGD.out (by have := HL.out; omega) (values := vals) Ox.out Oy.out
  rw [e3] at S3 K3 W3 U3
  rw [← eval_val W3, hp1, hq1] at U3
  have hv1 : 1 ≤ (k : Int) % 20 + 1 ∧ (k : Int) % 20 + 1 ≤ 20000 := by omega
  obtain ⟨g4, r4, e4⟩ : ∃ g r, inputC g0 ((k : Int) % 20 + 1) = (g, r) := ⟨_, _, rfl⟩
  have S4 := step_input HGD.out ((k : Int) % 20 + 1)
  have K4 := input_len (gs := g0) ((k : Int) % 20 + 1)
  have W4 := input_ok (gs := g0) (by have := HL.out; omega) hv1.1 hv1.2
  have U4 := val_input HGD.out (by have := HL.out; omega) (values := vals) hv1.1 hv1.2
  rw [e4] at S4 K4 W4 U4
  rw [← eval_val W4] at U4
  have HE := Lib.hid (And.intro e1 (And.intro e2 (And.intro e3 e4)))
  have HU := Lib.hid (And.intro U1 (And.intro U2 (And.intro U3 U4)))
  have G1 := Lib.hid S1.good
  have G2 := Lib.hid S2.good
  have G3 := Lib.hid S3.good
  have G4 := Lib.hid S4.good
  have HK := Lib.hid (show g1.length ≤ g0.length + 1 ∧ g2.length ≤ g0.length + 1 ∧ g3.length ≤ g0.length + 3 ∧ g4.length ≤ g0.length + 1 from ⟨K1, K2, K3, K4⟩)
  have HR := Lib.hid (show r1 ≤ 9223372036854775807 ∧ r2 ≤ 9223372036854775807 ∧ r3 ≤ 9223372036854775807 ∧ r4 ≤ 9223372036854775807 from by have h0 := HL.out; have h1 := W1.2; have h2 := W2.2; have h3 := W3.2; have h4 := W4.2; omega)
  have hwn : IntKind.i64.wrap (k : Int) = (k : Int) := IntWalk.i64_in _ (by omega)
  have hm8 : (k : Int).tmod 20 = ((k % 20 : Nat) : Int) := by rw [Int.tmod_eq_emod_of_nonneg (by omega)]; rfl
  have hw8 : IntKind.i64.wrap ((k % 20 : Nat) : Int) = ((k % 20 : Nat) : Int) := IntWalk.i64_in _ (by omega)
  have hw9 : IntKind.i64.wrap (((k % 20 : Nat) : Int) + 1) = ((k % 20 + 1 : Nat) : Int) := by rw [IntWalk.i64_in _ (by omega)]; omega
  have HWN := Lib.hid (And.intro hwn (And.intro hm8 (And.intro hw8 hw9)))
  clear hp hq hp1 hq1 e1 e2 e3 e4 S1 S2 S3 S4 K1 K2 K3 K4 W1 W2 W3 W4 U1 U2 U3 U4 hv1 hwn hm8 hw8 hw9
  have qc := Hc.out.1
  have fc := Hc.out.2.1
  go_wp2_with fail
  clear qc fc
  go_at_call 23
  have HEV := Lib.hid (eval_at (w := V3) x HPQ.out.1 (by have := HL.out; have := HK.out; omega) (by rw [HNV.out]; omega) (good_bounds HGD.out (by have := HL.out; have := HK.out; omega)) Mx.out Hc.out.2.2 HBV.out)
  rw [HNV.out] at HEV
  refine (HEV.out).mono ?_
  rintro e V4 ⟨rfl, g⟩
  replace Hc := Lib.hid (Hc.out.grown g)
  replace HRI := Lib.hid (HRI.out.grown g)
  replace HBV := Lib.hid (HBV.out.grown g)
  replace HG := Lib.hid (World.grownBy.trans HG.out g)
  clear g
  clear HEV
  have qc := Hc.out.1
  have fc := Hc.out.2.1
  go_wp2_with fail
  clear qc fc
  go_at_call 23
  have HEV := Lib.hid (eval_at (w := V4) y HPQ.out.2 (by have := HL.out; have := HK.out; omega) (by rw [HNV.out]; omega) (good_bounds HGD.out (by have := HL.out; have := HK.out; omega)) My.out Hc.out.2.2 HBV.out)
  rw [HNV.out] at HEV
  refine (HEV.out).mono ?_
  rintro e V5 ⟨rfl, g⟩
  replace Hc := Lib.hid (Hc.out.grown g)
  replace HRI := Lib.hid (HRI.out.grown g)
  replace HBV := Lib.hid (HBV.out.grown g)
  replace HG := Lib.hid (World.grownBy.trans HG.out g)
  clear g
  clear HEV
  have qc := Hc.out.1
  have fc := Hc.out.2.1
  go_wp2_with fail
  clear qc fc
  go_at_call 14
  refine (and_at x y HE.out.1 HGD.out (by have := HL.out; omega) Mx.out My.out Hc.out.2.2).mono ?_
  rintro e V6 ⟨a6, c6, rfl, hr, g⟩
  replace Hc := Lib.hid (Hc.out.grown g)
  replace HRI := Lib.hid (HRI.out.grown g)
  replace HBV := Lib.hid (HBV.out.grown g)
  replace HG := Lib.hid (World.grownBy.trans HG.out g)
  clear g
  have qc := Hc.out.1
  have fc := Hc.out.2.1
  go_upto_region 10 with fail
  clear qc fc
  have hb := CB.new hr
  have g := World.grownBy_alloc V6 (.cells #[.slice a6 g1.length c6] 25) none
  obtain ⟨V7, hV7⟩ : ∃ z, World.alloc V6 (.cells #[.slice a6 g1.length c6] 25) = z := ⟨_, rfl⟩
  rw [hV7] at g hb ⊢
  clear hV7 hr
  obtain ⟨bd, hbb⟩ : ∃ b, V6.heap.size = b := ⟨_, rfl⟩
  rw [hbb] at hb ⊢
  have Ld := Lib.hid (Nat.le_of_eq hbb)
  have Zd := Lib.hid (Nat.le_trans (World.grownBy.size HG.out) (Nat.le_of_eq hbb))
  clear hbb
  replace Hc := Lib.hid (Hc.out.grown g)
  replace HRI := Lib.hid (HRI.out.grown g)
  replace HBV := Lib.hid (HBV.out.grown g)
  replace HG := Lib.hid (World.grownBy.trans HG.out g)
  clear g
  have Hd := Lib.hid hb
  clear hb
  have qc := Hc.out.1
  have fc := Hc.out.2.1
  have qd := Hd.out.1
  have fd := Hd.out.2.1
  go_wp2_with fail
  clear qc fc qd fd
  go_at_call 16
  refine (or_at x y HE.out.2.1 HGD.out (by have := HL.out; omega) Mx.out My.out Hc.out.2.2).mono ?_
  rintro e V8 ⟨a8, c8, rfl, hr, g⟩
  replace Hc := Lib.hid (Hc.out.grown g)
  replace Hd := Lib.hid (Hd.out.grown g)
  replace HRI := Lib.hid (HRI.out.grown g)
  replace HBV := Lib.hid (HBV.out.grown g)
  replace HG := Lib.hid (World.grownBy.trans HG.out g)
  clear g
  have qc := Hc.out.1
  have fc := Hc.out.2.1
  have qd := Hd.out.1
  have fd := Hd.out.2.1
  go_upto_region 11 with fail
  clear qc fc qd fd
  have hb := CB.new hr
  have g := World.grownBy_alloc V8 (.cells #[.slice a8 g2.length c8] 25) none
  obtain ⟨V9, hV9⟩ : ∃ z, World.alloc V8 (.cells #[.slice a8 g2.length c8] 25) = z := ⟨_, rfl⟩
  rw [hV9] at g hb ⊢
  clear hV9 hr
  obtain ⟨be, hbb⟩ : ∃ b, V8.heap.size = b := ⟨_, rfl⟩
  rw [hbb] at hb ⊢
  have Le := Lib.hid (Nat.le_of_eq hbb)
  have Ze := Lib.hid (Nat.le_trans (World.grownBy.size HG.out) (Nat.le_of_eq hbb))
  clear hbb
  replace Hc := Lib.hid (Hc.out.grown g)
  replace Hd := Lib.hid (Hd.out.grown g)
  replace HRI := Lib.hid (HRI.out.grown g)
  replace HBV := Lib.hid (HBV.out.grown g)
  replace HG := Lib.hid (World.grownBy.trans HG.out g)
  clear g
  have He := Lib.hid hb
  clear hb
  have qc := Hc.out.1
  have fc := Hc.out.2.1
  have qd := Hd.out.1
  have fd := Hd.out.2.1
  have qe := He.out.1
  have fe := He.out.2.1
  go_wp2_with fail
  clear qc fc qd fd qe fe
  go_at_call 18
  refine (iff_at x y HE.out.2.2.1 HGD.out (by have := HL.out; omega) Mx.out My.out Hc.out.2.2).mono ?_
  rintro e V10 ⟨a10, c10, rfl, hr, g⟩
  replace Hc := Lib.hid (Hc.out.grown g)
  replace Hd := Lib.hid (Hd.out.grown g)
  replace He := Lib.hid (He.out.grown g)
  replace HRI := Lib.hid (HRI.out.grown g)
  replace HBV := Lib.hid (HBV.out.grown g)
  replace HG := Lib.hid (World.grownBy.trans HG.out g)
  clear g
  have qc := Hc.out.1
  have fc := Hc.out.2.1
  have qd := Hd.out.1
  have fd := Hd.out.2.1
  have qe := He.out.1
  have fe := He.out.2.1
  go_upto_region 12 with fail
  clear qc fc qd fd qe fe
  have hb := CB.new hr
  have g := World.grownBy_alloc V10 (.cells #[.slice a10 g3.length c10] 25) none
  obtain ⟨V11, hV11⟩ : ∃ z, World.alloc V10 (.cells #[.slice a10 g3.length c10] 25) = z := ⟨_, rfl⟩
  rw [hV11] at g hb ⊢
  clear hV11 hr
  obtain ⟨bf, hbb⟩ : ∃ b, V10.heap.size = b := ⟨_, rfl⟩
  rw [hbb] at hb ⊢
  have Lf := Lib.hid (Nat.le_of_eq hbb)
  have Zf := Lib.hid (Nat.le_trans (World.grownBy.size HG.out) (Nat.le_of_eq hbb))
  clear hbb
  replace Hc := Lib.hid (Hc.out.grown g)
  replace Hd := Lib.hid (Hd.out.grown g)
  replace He := Lib.hid (He.out.grown g)
  replace HRI := Lib.hid (HRI.out.grown g)
  replace HBV := Lib.hid (HBV.out.grown g)
  replace HG := Lib.hid (World.grownBy.trans HG.out g)
  clear g
  have Hf := Lib.hid hb
  clear hb
  have qc := Hc.out.1
  have fc := Hc.out.2.1
  have qd := Hd.out.1
  have fd := Hd.out.2.1
  have qe := He.out.1
  have fe := He.out.2.1
  have qf := Hf.out.1
  have ff := Hf.out.2.1
  have ⟨hwn, hm8, hw8, hw9⟩ := HWN.out
  go_wp2_with fail
  clear qc fc qd fd qe fe qf ff
  go_at_call 12
  refine (input_at ((k : Int) % 20 + 1) HE.out.2.2.2 HGD.out (by have := HL.out; omega) Hc.out.2.2).mono ?_
  rintro e V12 ⟨a12, c12, rfl, hr, g⟩
  replace Hc := Lib.hid (Hc.out.grown g)
  replace Hd := Lib.hid (Hd.out.grown g)
  replace He := Lib.hid (He.out.grown g)
  replace Hf := Lib.hid (Hf.out.grown g)
  replace HRI := Lib.hid (HRI.out.grown g)
  replace HBV := Lib.hid (HBV.out.grown g)
  replace HG := Lib.hid (World.grownBy.trans HG.out g)
  clear g
  have qc := Hc.out.1
  have fc := Hc.out.2.1
  have qd := Hd.out.1
  have fd := Hd.out.2.1
  have qe := He.out.1
  have fe := He.out.2.1
  have qf := Hf.out.1
  have ff := Hf.out.2.1
  go_upto_region 14 with fail
  clear qc fc qd fd qe fe qf ff
  have hb := CB.new hr
  have g := World.grownBy_alloc V12 (.cells #[.slice a12 g4.length c12] 25) none
  obtain ⟨V13, hV13⟩ : ∃ z, World.alloc V12 (.cells #[.slice a12 g4.length c12] 25) = z := ⟨_, rfl⟩
  rw [hV13] at g hb ⊢
  clear hV13 hr
  obtain ⟨bg, hbb⟩ : ∃ b, V12.heap.size = b := ⟨_, rfl⟩
  rw [hbb] at hb ⊢
  have Lg := Lib.hid (Nat.le_of_eq hbb)
  have Zg := Lib.hid (Nat.le_trans (World.grownBy.size HG.out) (Nat.le_of_eq hbb))
  clear hbb
  replace Hc := Lib.hid (Hc.out.grown g)
  replace Hd := Lib.hid (Hd.out.grown g)
  replace He := Lib.hid (He.out.grown g)
  replace Hf := Lib.hid (Hf.out.grown g)
  replace HRI := Lib.hid (HRI.out.grown g)
  replace HBV := Lib.hid (HBV.out.grown g)
  replace HG := Lib.hid (World.grownBy.trans HG.out g)
  clear g
  have Hg := Lib.hid hb
  clear hb
  simp only [List.append_eq, List.cons_append, List.nil_append]
  have u1 : decide ((k : Int) % 20 + 1 ≤ (nv : Int)) = true := decide_eq_true hkv
  have u1b : decide ((k : Int) % 20 < (nv : Int)) = true := decide_eq_true (by omega)
  obtain ⟨i, hi⟩ : ∃ i : Nat, (k : Int) % 20 = (i : Int) := ⟨k % 20, rfl⟩
  obtain ⟨z, hz⟩ : ∃ z, vals[i]? = some z := ⟨_, List.getElem?_eq_getElem (by rw [HNV.out]; omega)⟩
  have HIN := Lib.hid (show evalC g4 vals r4 = z from by have := HU.out.2.2.2; rw [this, show ((k : Int) % 20 + 1 - 1).toNat = i by omega, hz]; rfl)
  have HZ := Lib.hid hz
  have hi9 : i < 20 := by omega
  clear hz hkv
  cases p
  case false =>
    have v1 : evalC g1 vals r1 = false := by have h := HU.out.1; simpa using h
    have v2 : evalC g2 vals r2 = q := by have h := HU.out.2.1; simpa using h
    have v3 : evalC g3 vals r3 = (!q) := by have h := HU.out.2.2.1; simpa using h
    have v0 : evalC g0 vals (notR x) = true := HNT.out
    have HVV := Lib.hid (And.intro v0 (And.intro v1 (And.intro v2 v3)))
    clear v0 v1 v2 v3
    obtain ⟨bv, ov, hva, xv⟩ := HBV.out.at HZ.out
    have u2 : IntKind.i64.wrap ((k : Int) % 20 + 1 - 1) = (i : Int) := by rw [IntWalk.i64_in _ (by omega)]; omega
    have u3 : (i : Int) < (nv : Int) := by have := (List.getElem?_eq_some_iff.1 HZ.out).1; rw [HNV.out] at this; omega
    have u4 : (0 : Int) ≤ (i : Int) := by omega
    have u5 : IntKind.i64.wrap (i : Int) = (i : Int) := IntWalk.i64_in _ (by omega)
    have u7 : decide ((i : Int) + 1 ≤ (nv : Int)) = true := decide_eq_true (by omega)
    have u8 : decide ((i : Int) < (nv : Int)) = true := decide_eq_true (by omega)
    have u9 : decide (i < nv) = true := decide_eq_true (by omega)
    have u10 : decide (i + 1 ≤ nv) = true := decide_eq_true (by omega)
    have u6 : IntKind.i64.wrap ((i : Int) + 1 - 1) = (i : Int) := by rw [IntWalk.i64_in _ (by omega)]; omega
    subst hva
    have HS := Lib.hid (fun (Wh : World) (hWh : V13.grownBy Wh none) => (⟨hWh, hWh.cell Hc.out.1 (by simp), hWh.cell Hd.out.1 (by simp), hWh.cell He.out.1 (by simp), hWh.cell Hf.out.1 (by simp), hWh.cell Hg.out.1 (by simp), hWh.cell xv (by simp)⟩ : (fun Wh : World => V13.grownBy Wh none ∧ Wh.cell? ⟨bc, 0, none⟩ = some (.slice a2 g0.length c2) ∧ Wh.cell? ⟨bd, 0, none⟩ = some (.slice a6 g1.length c6) ∧ Wh.cell? ⟨be, 0, none⟩ = some (.slice a8 g2.length c8) ∧ Wh.cell? ⟨bf, 0, none⟩ = some (.slice a10 g3.length c10) ∧ Wh.cell? ⟨bg, 0, none⟩ = some (.slice a12 g4.length c12) ∧ Wh.cell? ⟨bv, ov + i, none⟩ = some (.bool z)) Wh))
    have hdr : V13.grownBy V13.drew none := ⟨rfl, rfl, rfl, Nat.le_refl _, fun _ _ _ => rfl⟩
    refine wp_region_held_drew (S := (fun Wh : World => V13.grownBy Wh none ∧ Wh.cell? ⟨bc, 0, none⟩ = some (.slice a2 g0.length c2) ∧ Wh.cell? ⟨bd, 0, none⟩ = some (.slice a6 g1.length c6) ∧ Wh.cell? ⟨be, 0, none⟩ = some (.slice a8 g2.length c8) ∧ Wh.cell? ⟨bf, 0, none⟩ = some (.slice a10 g3.length c10) ∧ Wh.cell? ⟨bg, 0, none⟩ = some (.slice a12 g4.length c12) ∧ Wh.cell? ⟨bv, ov + i, none⟩ = some (.bool z))) (by kernel_rfl) (HS.out _ hdr) (fun hHeld => ?_)
    refine wpAnyH_take (i := 0) (oi := { dst := some 87, op := Op.move (Operand.tmp 11), type := 4, pos := "law.go:111", after := #[], guard := none }) (v := ?_) rfl (by kernel_rfl) (by kernel_rfl) (by kernel_rfl) (fun _ _ _ h => h) (Or.inl ⟨by rfl, ?_⟩) (by assumption) ?_
    rotate_left 1
    · (intro W hSW; (try dsimp only at hSW); first | (go_simp; done) | (go_simp; with_reducible rfl))
    try simp only [Act.put, List.setIfInBounds_toArray, List.set_cons_zero, List.set_cons_succ]
    refine wpAnyH_take (i := 1) (oi := { dst := some 88, op := Op.move (Operand.tmp 87), type := 4, pos := "law.go:111", after := #[{ on := 0, ground := Ground.data }], guard := none }) (v := ?_) rfl (by kernel_rfl) (by kernel_rfl) (by kernel_rfl) (fun _ _ _ h => h) (Or.inl ⟨by rfl, ?_⟩) (by assumption) ?_
    rotate_left 1
    · (intro W hSW; (try dsimp only at hSW); first | (go_simp; done) | (go_simp; with_reducible rfl))
    try simp only [Act.put, List.setIfInBounds_toArray, List.set_cons_zero, List.set_cons_succ]
    refine wpAnyH_take (i := 2) (oi := { dst := some 89, op := Op.load 25 (Operand.tmp 12), type := 25, pos := "law.go:111", after := #[{ on := 1, ground := Ground.guard }], guard := some (1, true) }) (v := ?_) rfl (by kernel_rfl) (by kernel_rfl) (by kernel_rfl) (fun _ _ _ h => h) (Or.inl ⟨by rfl, ?_⟩) (by assumption) ?_
    rotate_left 1
    · (intro W hSW; (try dsimp only at hSW); first | (go_simp; done) | (go_simp; with_reducible rfl))
    try simp only [Act.put, List.setIfInBounds_toArray, List.set_cons_zero, List.set_cons_succ]
    refine wpAnyH_take (i := 3) (oi := { dst := some 90, op := Op.move (Operand.tmp 4), type := 26, pos := "law.go:111", after := #[{ on := 1, ground := Ground.guard }], guard := some (1, true) }) (v := ?_) rfl (by kernel_rfl) (by kernel_rfl) (by kernel_rfl) (fun _ _ _ h => h) (Or.inl ⟨by rfl, ?_⟩) (by assumption) ?_
    rotate_left 1
    · (intro W hSW; (try dsimp only at hSW); first | (go_simp; done) | (go_simp; with_reducible rfl))
    try simp only [Act.put, List.setIfInBounds_toArray, List.set_cons_zero, List.set_cons_succ]
    refine wpAnyH_take (i := 4) (oi := { dst := some 91, op := Op.move (Operand.tmp 14), type := 3, pos := "law.go:111", after := #[{ on := 1, ground := Ground.guard }], guard := some (1, true) }) (v := ?_) rfl (by kernel_rfl) (by kernel_rfl) (by kernel_rfl) (fun _ _ _ h => h) (Or.inl ⟨by rfl, ?_⟩) (by assumption) ?_
    rotate_left 1
    · (intro W hSW; (try dsimp only at hSW); first | (go_simp; done) | (go_simp; with_reducible rfl))
    try simp only [Act.put, List.setIfInBounds_toArray, List.set_cons_zero, List.set_cons_succ]
    refine wpAnyH_take (i := 7) (oi := { dst := some 94, op := Op.move (Operand.tmp 16), type := 4, pos := "law.go:111", after := #[{ on := 1, ground := Ground.guard }], guard := some (1, true) }) (v := ?_) rfl (by kernel_rfl) (by kernel_rfl) (by kernel_rfl) (fun _ _ _ h => h) (Or.inl ⟨by rfl, ?_⟩) (by assumption) ?_
    rotate_left 1
    · (intro W hSW; (try dsimp only at hSW); first | (go_simp; done) | (go_simp; with_reducible rfl))
    try simp only [Act.put, List.setIfInBounds_toArray, List.set_cons_zero, List.set_cons_succ]
    refine wpAnyH_take (i := 8) (oi := { dst := some 95, op := Op.unOp UnOp.not 4 (Operand.tmp 94), type := 4, pos := "law.go:111", after := #[{ on := 7, ground := Ground.data }, { on := 1, ground := Ground.guard }], guard := some (1, true) }) (v := ?_) rfl (by kernel_rfl) (by kernel_rfl) (by kernel_rfl) (fun _ _ _ h => h) (Or.inl ⟨by rfl, ?_⟩) (by assumption) ?_
    rotate_left 1
    · (intro W hSW; (try dsimp only at hSW); first | (go_simp; done) | (go_simp; with_reducible rfl))
    try simp only [Act.put, List.setIfInBounds_toArray, List.set_cons_zero, List.set_cons_succ]
    refine wpAnyH_ready (rs := [5]) (by kernel_rfl) (by simp) ?_
    refine (AllReadyH.cons (o := { dst := some 92, op := Op.call { callee := Callee.value (Operand.func 25), args := #[Operand.tmp 91], argTypes := #[3] }, type := 3, pos := "law.go:111", after := #[{ on := 4, ground := Ground.data }, { on := 1, ground := Ground.chain }, { on := 1, ground := Ground.guard }], guard := some (1, true) }) rfl (fun K hK => ?_) AllReadyH.nil)
    rw [if_pos (by rfl)]
    go_simp
    go_at_call 25
    refine (not_at x Mx.out).mono ?_
    rintro e w9 ⟨rfl, hw9⟩
    rw [hw9]
    clear hw9 w9
    go_wp2_with fail
    refine hK.out _ _ (HS.out _ hdr) (fun hHeld => ?_)
    clear hK K
    try simp only [Act.put, List.setIfInBounds_toArray, List.set_cons_zero, List.set_cons_succ]
    refine wpAnyH_ready (rs := [6]) (by kernel_rfl) (by simp) ?_
    refine (AllReadyH.cons (o := { dst := some 93, op := Op.call { callee := Callee.value (Operand.func 23), args := #[Operand.tmp 89, Operand.tmp 90, Operand.tmp 92], argTypes := #[25, 26, 3] }, type := 4, pos := "law.go:111", after := #[{ on := 2, ground := Ground.data }, { on := 3, ground := Ground.data }, { on := 5, ground := Ground.data }, { on := 5, ground := Ground.chain }, { on := 1, ground := Ground.guard }], guard := some (1, true) }) rfl (fun K hK => ?_) AllReadyH.nil)
    rw [if_pos (by rfl)]
    go_simp
    go_at_call 23
    refine (eval_at2 HNV.out (notR x) HVV.out.1 (by have := HL.out; have := HK.out; omega) (by rw [HNV.out]; omega) (good_bounds HGD.out (by have := HL.out; have := HK.out; omega)) (notR_le Mx.out) (Hc.out.grown hdr).2.2 (HBV.out.grown hdr)).mono ?_
    rintro e wc2 ⟨rfl, gc2⟩
    have hgr2 := World.grownBy.trans hdr gc2
    go_wp2_with fail
    refine hK.out _ _ (HS.out _ hgr2) (fun hHeld => ?_)
    clear hK K
    try simp only [Act.put, List.setIfInBounds_toArray, List.set_cons_zero, List.set_cons_succ]
    refine wpAnyH_take (i := 9) (oi := { dst := some 96, op := Op.binOp BinOp.eql 4 (Operand.tmp 93) (Operand.tmp 95) 4, type := 4, pos := "law.go:111", after := #[{ on := 6, ground := Ground.data }, { on := 8, ground := Ground.data }, { on := 1, ground := Ground.guard }], guard := some (1, true) }) (v := ?_) rfl (by kernel_rfl) (by kernel_rfl) (by kernel_rfl) (fun _ _ _ h => h) (Or.inl ⟨by rfl, ?_⟩) (by assumption) ?_
    rotate_left 1
    · (intro W hSW; (try dsimp only at hSW); first | (go_simp; done) | (go_simp; with_reducible rfl))
    try simp only [Act.put, List.setIfInBounds_toArray, List.set_cons_zero, List.set_cons_succ]
    refine wpAnyH_take (i := 10) (oi := { dst := some 97, op := Op.pick (Operand.tmp 88) (Operand.tmp 96) (Operand.const (Value.bool false)), type := 4, pos := "law.go:111", after := #[{ on := 1, ground := Ground.data }, { on := 9, ground := Ground.data }], guard := none }) (v := ?_) rfl (by kernel_rfl) (by kernel_rfl) (by kernel_rfl) (fun _ _ _ h => h) (Or.inl ⟨by rfl, ?_⟩) (by assumption) ?_
    rotate_left 1
    · (intro W hSW; (try dsimp only at hSW); first | (go_simp; done) | (go_simp; with_reducible rfl))
    try simp only [Act.put, List.setIfInBounds_toArray, List.set_cons_zero, List.set_cons_succ]
    refine wpAnyH_take (i := 11) (oi := { dst := some 98, op := Op.move (Operand.tmp 97), type := 4, pos := "law.go:111", after := #[{ on := 10, ground := Ground.data }, { on := 6, ground := Ground.chain }], guard := none }) (v := ?_) rfl (by kernel_rfl) (by kernel_rfl) (by kernel_rfl) (fun _ _ _ h => h) (Or.inl ⟨by rfl, ?_⟩) (by assumption) ?_
    rotate_left 1
    · (intro W hSW; (try dsimp only at hSW); first | (go_simp; done) | (go_simp; with_reducible rfl))
    try simp only [Act.put, List.setIfInBounds_toArray, List.set_cons_zero, List.set_cons_succ]
    refine wpAnyH_take (i := 12) (oi := { dst := some 99, op := Op.load 25 (Operand.tmp 18), type := 25, pos := "law.go:111", after := #[{ on := 11, ground := Ground.guard }], guard := some (11, true) }) (v := ?_) rfl (by kernel_rfl) (by kernel_rfl) (by kernel_rfl) (fun _ _ _ h => h) (Or.inl ⟨by rfl, ?_⟩) (by assumption) ?_
    rotate_left 1
    · (intro W hSW; (try dsimp only at hSW); first | (go_simp; done) | (go_simp; with_reducible rfl))
    try simp only [Act.put, List.setIfInBounds_toArray, List.set_cons_zero, List.set_cons_succ]
    refine wpAnyH_take (i := 13) (oi := { dst := some 100, op := Op.move (Operand.tmp 4), type := 26, pos := "law.go:111", after := #[{ on := 11, ground := Ground.guard }], guard := some (11, true) }) (v := ?_) rfl (by kernel_rfl) (by kernel_rfl) (by kernel_rfl) (fun _ _ _ h => h) (Or.inl ⟨by rfl, ?_⟩) (by assumption) ?_
    rotate_left 1
    · (intro W hSW; (try dsimp only at hSW); first | (go_simp; done) | (go_simp; with_reducible rfl))
    try simp only [Act.put, List.setIfInBounds_toArray, List.set_cons_zero, List.set_cons_succ]
    refine wpAnyH_take (i := 14) (oi := { dst := some 101, op := Op.move (Operand.tmp 19), type := 3, pos := "law.go:111", after := #[{ on := 11, ground := Ground.guard }], guard := some (11, true) }) (v := ?_) rfl (by kernel_rfl) (by kernel_rfl) (by kernel_rfl) (fun _ _ _ h => h) (Or.inl ⟨by rfl, ?_⟩) (by assumption) ?_
    rotate_left 1
    · (intro W hSW; (try dsimp only at hSW); first | (go_simp; done) | (go_simp; with_reducible rfl))
    try simp only [Act.put, List.setIfInBounds_toArray, List.set_cons_zero, List.set_cons_succ]
    refine wpAnyH_take (i := 16) (oi := { dst := some 103, op := Op.move (Operand.tmp 16), type := 4, pos := "law.go:111", after := #[{ on := 11, ground := Ground.guard }], guard := some (11, true) }) (v := ?_) rfl (by kernel_rfl) (by kernel_rfl) (by kernel_rfl) (fun _ _ _ h => h) (Or.inl ⟨by rfl, ?_⟩) (by assumption) ?_
    rotate_left 1
    · (intro W hSW; (try dsimp only at hSW); first | (go_simp; done) | (go_simp; with_reducible rfl))
    try simp only [Act.put, List.setIfInBounds_toArray, List.set_cons_zero, List.set_cons_succ]
    refine wpAnyH_ready (rs := [15]) (by kernel_rfl) (by simp) ?_
    refine (AllReadyH.cons (o := { dst := some 102, op := Op.call { callee := Callee.value (Operand.func 23), args := #[Operand.tmp 99, Operand.tmp 100, Operand.tmp 101], argTypes := #[25, 26, 3] }, type := 4, pos := "law.go:111", after := #[{ on := 12, ground := Ground.data }, { on := 13, ground := Ground.data }, { on := 14, ground := Ground.data }, { on := 11, ground := Ground.chain }, { on := 11, ground := Ground.guard }], guard := some (11, true) }) rfl (fun K hK => ?_) AllReadyH.nil)
    rw [if_pos (by rfl)]
    go_simp
    go_at_call 23
    refine (eval_at2 HNV.out r1 HVV.out.2.1 (by have := HL.out; have := HK.out; omega) (by rw [HNV.out]; omega) (good_bounds G1.out (by have := HL.out; have := HK.out; omega)) HR.out.1 (Hd.out.grown hgr2).2.2 (HBV.out.grown hgr2)).mono ?_
    rintro e wc3 ⟨rfl, gc3⟩
    have hgr3 := World.grownBy.trans hgr2 gc3
    go_wp2_with fail
    refine hK.out _ _ (HS.out _ hgr3) (fun hHeld => ?_)
    clear hK K
    try simp only [Act.put, List.setIfInBounds_toArray, List.set_cons_zero, List.set_cons_succ]
    refine wpAnyH_take (i := 17) (oi := { dst := some 104, op := Op.move (Operand.tmp 103), type := 4, pos := "law.go:111", after := #[{ on := 16, ground := Ground.data }, { on := 15, ground := Ground.chain }, { on := 11, ground := Ground.guard }], guard := some (11, true) }) (v := ?_) rfl (by kernel_rfl) (by kernel_rfl) (by kernel_rfl) (fun _ _ _ h => h) (Or.inl ⟨by rfl, ?_⟩) (by assumption) ?_
    rotate_left 1
    · (intro W hSW; (try dsimp only at hSW); first | (go_simp; done) | (go_simp; with_reducible rfl))
    try simp only [Act.put, List.setIfInBounds_toArray, List.set_cons_zero, List.set_cons_succ]
    refine wpAnyH_take (i := 18) (oi := { dst := some 105, op := Op.move (Operand.tmp 17), type := 4, pos := "law.go:111", after := #[{ on := 17, ground := Ground.guard }], guard := some (17, true) }) (v := undef) rfl (by kernel_rfl) (by kernel_rfl) (by kernel_rfl) (fun _ _ _ h => h) (Or.inr ⟨by rfl, rfl⟩) (by assumption) ?_
    try simp only [Act.put, List.setIfInBounds_toArray, List.set_cons_zero, List.set_cons_succ]
    refine wpAnyH_take (i := 19) (oi := { dst := some 106, op := Op.pick (Operand.tmp 104) (Operand.tmp 105) (Operand.const (Value.bool false)), type := 4, pos := "law.go:111", after := #[{ on := 17, ground := Ground.data }, { on := 18, ground := Ground.data }, { on := 11, ground := Ground.guard }], guard := some (11, true) }) (v := ?_) rfl (by kernel_rfl) (by kernel_rfl) (by kernel_rfl) (fun _ _ _ h => h) (Or.inl ⟨by rfl, ?_⟩) (by assumption) ?_
    rotate_left 1
    · (intro W hSW; (try dsimp only at hSW); first | (go_simp; done) | (go_simp; with_reducible rfl))
    try simp only [Act.put, List.setIfInBounds_toArray, List.set_cons_zero, List.set_cons_succ]
    refine wpAnyH_take (i := 20) (oi := { dst := some 107, op := Op.binOp BinOp.eql 4 (Operand.tmp 102) (Operand.tmp 106) 4, type := 4, pos := "law.go:111", after := #[{ on := 15, ground := Ground.data }, { on := 19, ground := Ground.data }, { on := 11, ground := Ground.guard }], guard := some (11, true) }) (v := ?_) rfl (by kernel_rfl) (by kernel_rfl) (by kernel_rfl) (fun _ _ _ h => h) (Or.inl ⟨by rfl, ?_⟩) (by assumption) ?_
    rotate_left 1
    · (intro W hSW; (try dsimp only at hSW); first | (go_simp; done) | (go_simp; with_reducible rfl))
    try simp only [Act.put, List.setIfInBounds_toArray, List.set_cons_zero, List.set_cons_succ]
    refine wpAnyH_take (i := 21) (oi := { dst := some 108, op := Op.pick (Operand.tmp 98) (Operand.tmp 107) (Operand.const (Value.bool false)), type := 4, pos := "law.go:111", after := #[{ on := 11, ground := Ground.data }, { on := 20, ground := Ground.data }], guard := none }) (v := ?_) rfl (by kernel_rfl) (by kernel_rfl) (by kernel_rfl) (fun _ _ _ h => h) (Or.inl ⟨by rfl, ?_⟩) (by assumption) ?_
    rotate_left 1
    · (intro W hSW; (try dsimp only at hSW); first | (go_simp; done) | (go_simp; with_reducible rfl))
    try simp only [Act.put, List.setIfInBounds_toArray, List.set_cons_zero, List.set_cons_succ]
    refine wpAnyH_take (i := 22) (oi := { dst := some 109, op := Op.move (Operand.tmp 108), type := 4, pos := "law.go:111", after := #[{ on := 21, ground := Ground.data }, { on := 17, ground := Ground.chain }], guard := none }) (v := ?_) rfl (by kernel_rfl) (by kernel_rfl) (by kernel_rfl) (fun _ _ _ h => h) (Or.inl ⟨by rfl, ?_⟩) (by assumption) ?_
    rotate_left 1
    · (intro W hSW; (try dsimp only at hSW); first | (go_simp; done) | (go_simp; with_reducible rfl))
    try simp only [Act.put, List.setIfInBounds_toArray, List.set_cons_zero, List.set_cons_succ]
    refine wpAnyH_take (i := 23) (oi := { dst := some 110, op := Op.load 25 (Operand.tmp 20), type := 25, pos := "law.go:111", after := #[{ on := 22, ground := Ground.guard }], guard := some (22, true) }) (v := ?_) rfl (by kernel_rfl) (by kernel_rfl) (by kernel_rfl) (fun _ _ _ h => h) (Or.inl ⟨by rfl, ?_⟩) (by assumption) ?_
    rotate_left 1
    · (intro W hSW; (try dsimp only at hSW); first | (go_simp; done) | (go_simp; with_reducible rfl))
    try simp only [Act.put, List.setIfInBounds_toArray, List.set_cons_zero, List.set_cons_succ]
    refine wpAnyH_take (i := 24) (oi := { dst := some 111, op := Op.move (Operand.tmp 4), type := 26, pos := "law.go:111", after := #[{ on := 22, ground := Ground.guard }], guard := some (22, true) }) (v := ?_) rfl (by kernel_rfl) (by kernel_rfl) (by kernel_rfl) (fun _ _ _ h => h) (Or.inl ⟨by rfl, ?_⟩) (by assumption) ?_
    rotate_left 1
    · (intro W hSW; (try dsimp only at hSW); first | (go_simp; done) | (go_simp; with_reducible rfl))
    try simp only [Act.put, List.setIfInBounds_toArray, List.set_cons_zero, List.set_cons_succ]
    refine wpAnyH_take (i := 25) (oi := { dst := some 112, op := Op.move (Operand.tmp 21), type := 3, pos := "law.go:111", after := #[{ on := 22, ground := Ground.guard }], guard := some (22, true) }) (v := ?_) rfl (by kernel_rfl) (by kernel_rfl) (by kernel_rfl) (fun _ _ _ h => h) (Or.inl ⟨by rfl, ?_⟩) (by assumption) ?_
    rotate_left 1
    · (intro W hSW; (try dsimp only at hSW); first | (go_simp; done) | (go_simp; with_reducible rfl))
    try simp only [Act.put, List.setIfInBounds_toArray, List.set_cons_zero, List.set_cons_succ]
    refine wpAnyH_take (i := 27) (oi := { dst := some 114, op := Op.move (Operand.tmp 16), type := 4, pos := "law.go:111", after := #[{ on := 22, ground := Ground.guard }], guard := some (22, true) }) (v := ?_) rfl (by kernel_rfl) (by kernel_rfl) (by kernel_rfl) (fun _ _ _ h => h) (Or.inl ⟨by rfl, ?_⟩) (by assumption) ?_
    rotate_left 1
    · (intro W hSW; (try dsimp only at hSW); first | (go_simp; done) | (go_simp; with_reducible rfl))
    try simp only [Act.put, List.setIfInBounds_toArray, List.set_cons_zero, List.set_cons_succ]
    refine wpAnyH_ready (rs := [26]) (by kernel_rfl) (by simp) ?_
    refine (AllReadyH.cons (o := { dst := some 113, op := Op.call { callee := Callee.value (Operand.func 23), args := #[Operand.tmp 110, Operand.tmp 111, Operand.tmp 112], argTypes := #[25, 26, 3] }, type := 4, pos := "law.go:111", after := #[{ on := 23, ground := Ground.data }, { on := 24, ground := Ground.data }, { on := 25, ground := Ground.data }, { on := 22, ground := Ground.chain }, { on := 22, ground := Ground.guard }], guard := some (22, true) }) rfl (fun K hK => ?_) AllReadyH.nil)
    rw [if_pos (by rfl)]
    go_simp
    go_at_call 23
    refine (eval_at2 HNV.out r2 HVV.out.2.2.1 (by have := HL.out; have := HK.out; omega) (by rw [HNV.out]; omega) (good_bounds G2.out (by have := HL.out; have := HK.out; omega)) HR.out.2.1 (He.out.grown hgr3).2.2 (HBV.out.grown hgr3)).mono ?_
    rintro e wc4 ⟨rfl, gc4⟩
    have hgr4 := World.grownBy.trans hgr3 gc4
    go_wp2_with fail
    refine hK.out _ _ (HS.out _ hgr4) (fun hHeld => ?_)
    clear hK K
    try simp only [Act.put, List.setIfInBounds_toArray, List.set_cons_zero, List.set_cons_succ]
    refine wpAnyH_take (i := 28) (oi := { dst := some 115, op := Op.move (Operand.tmp 114), type := 4, pos := "law.go:111", after := #[{ on := 27, ground := Ground.data }, { on := 26, ground := Ground.chain }, { on := 22, ground := Ground.guard }], guard := some (22, true) }) (v := ?_) rfl (by kernel_rfl) (by kernel_rfl) (by kernel_rfl) (fun _ _ _ h => h) (Or.inl ⟨by rfl, ?_⟩) (by assumption) ?_
    rotate_left 1
    · (intro W hSW; (try dsimp only at hSW); first | (go_simp; done) | (go_simp; with_reducible rfl))
    try simp only [Act.put, List.setIfInBounds_toArray, List.set_cons_zero, List.set_cons_succ]
    refine wpAnyH_take (i := 29) (oi := { dst := some 116, op := Op.move (Operand.tmp 17), type := 4, pos := "law.go:111", after := #[{ on := 28, ground := Ground.guard }], guard := some (28, false) }) (v := ?_) rfl (by kernel_rfl) (by kernel_rfl) (by kernel_rfl) (fun _ _ _ h => h) (Or.inl ⟨by rfl, ?_⟩) (by assumption) ?_
    rotate_left 1
    · (intro W hSW; (try dsimp only at hSW); first | (go_simp; done) | (go_simp; with_reducible rfl))
    try simp only [Act.put, List.setIfInBounds_toArray, List.set_cons_zero, List.set_cons_succ]
    refine wpAnyH_take (i := 30) (oi := { dst := some 117, op := Op.pick (Operand.tmp 115) (Operand.const (Value.bool true)) (Operand.tmp 116), type := 4, pos := "law.go:111", after := #[{ on := 28, ground := Ground.data }, { on := 29, ground := Ground.data }, { on := 22, ground := Ground.guard }], guard := some (22, true) }) (v := ?_) rfl (by kernel_rfl) (by kernel_rfl) (by kernel_rfl) (fun _ _ _ h => h) (Or.inl ⟨by rfl, ?_⟩) (by assumption) ?_
    rotate_left 1
    · (intro W hSW; (try dsimp only at hSW); first | (go_simp; done) | (go_simp; with_reducible rfl))
    try simp only [Act.put, List.setIfInBounds_toArray, List.set_cons_zero, List.set_cons_succ]
    refine wpAnyH_take (i := 31) (oi := { dst := some 118, op := Op.binOp BinOp.eql 4 (Operand.tmp 113) (Operand.tmp 117) 4, type := 4, pos := "law.go:111", after := #[{ on := 26, ground := Ground.data }, { on := 30, ground := Ground.data }, { on := 22, ground := Ground.guard }], guard := some (22, true) }) (v := ?_) rfl (by kernel_rfl) (by kernel_rfl) (by kernel_rfl) (fun _ _ _ h => h) (Or.inl ⟨by rfl, ?_⟩) (by assumption) ?_
    rotate_left 1
    · (intro W hSW; (try dsimp only at hSW); first | (go_simp; done) | (go_simp; with_reducible rfl))
    try simp only [Act.put, List.setIfInBounds_toArray, List.set_cons_zero, List.set_cons_succ]
    refine wpAnyH_take (i := 32) (oi := { dst := some 119, op := Op.pick (Operand.tmp 109) (Operand.tmp 118) (Operand.const (Value.bool false)), type := 4, pos := "law.go:111", after := #[{ on := 22, ground := Ground.data }, { on := 31, ground := Ground.data }], guard := none }) (v := ?_) rfl (by kernel_rfl) (by kernel_rfl) (by kernel_rfl) (fun _ _ _ h => h) (Or.inl ⟨by rfl, ?_⟩) (by assumption) ?_
    rotate_left 1
    · (intro W hSW; (try dsimp only at hSW); first | (go_simp; done) | (go_simp; with_reducible rfl))
    try simp only [Act.put, List.setIfInBounds_toArray, List.set_cons_zero, List.set_cons_succ]
    refine wpAnyH_take (i := 33) (oi := { dst := some 120, op := Op.move (Operand.tmp 119), type := 4, pos := "law.go:111", after := #[{ on := 32, ground := Ground.data }, { on := 28, ground := Ground.chain }], guard := none }) (v := ?_) rfl (by kernel_rfl) (by kernel_rfl) (by kernel_rfl) (fun _ _ _ h => h) (Or.inl ⟨by rfl, ?_⟩) (by assumption) ?_
    rotate_left 1
    · (intro W hSW; (try dsimp only at hSW); first | (go_simp; done) | (go_simp; with_reducible rfl))
    try simp only [Act.put, List.setIfInBounds_toArray, List.set_cons_zero, List.set_cons_succ]
    refine wpAnyH_take (i := 34) (oi := { dst := some 121, op := Op.load 25 (Operand.tmp 22), type := 25, pos := "law.go:111", after := #[{ on := 33, ground := Ground.guard }], guard := some (33, true) }) (v := ?_) rfl (by kernel_rfl) (by kernel_rfl) (by kernel_rfl) (fun _ _ _ h => h) (Or.inl ⟨by rfl, ?_⟩) (by assumption) ?_
    rotate_left 1
    · (intro W hSW; (try dsimp only at hSW); first | (go_simp; done) | (go_simp; with_reducible rfl))
    try simp only [Act.put, List.setIfInBounds_toArray, List.set_cons_zero, List.set_cons_succ]
    refine wpAnyH_take (i := 35) (oi := { dst := some 122, op := Op.move (Operand.tmp 4), type := 26, pos := "law.go:111", after := #[{ on := 33, ground := Ground.guard }], guard := some (33, true) }) (v := ?_) rfl (by kernel_rfl) (by kernel_rfl) (by kernel_rfl) (fun _ _ _ h => h) (Or.inl ⟨by rfl, ?_⟩) (by assumption) ?_
    rotate_left 1
    · (intro W hSW; (try dsimp only at hSW); first | (go_simp; done) | (go_simp; with_reducible rfl))
    try simp only [Act.put, List.setIfInBounds_toArray, List.set_cons_zero, List.set_cons_succ]
    refine wpAnyH_take (i := 36) (oi := { dst := some 123, op := Op.move (Operand.tmp 23), type := 3, pos := "law.go:111", after := #[{ on := 33, ground := Ground.guard }], guard := some (33, true) }) (v := ?_) rfl (by kernel_rfl) (by kernel_rfl) (by kernel_rfl) (fun _ _ _ h => h) (Or.inl ⟨by rfl, ?_⟩) (by assumption) ?_
    rotate_left 1
    · (intro W hSW; (try dsimp only at hSW); first | (go_simp; done) | (go_simp; with_reducible rfl))
    try simp only [Act.put, List.setIfInBounds_toArray, List.set_cons_zero, List.set_cons_succ]
    refine wpAnyH_take (i := 38) (oi := { dst := some 125, op := Op.move (Operand.tmp 16), type := 4, pos := "law.go:111", after := #[{ on := 33, ground := Ground.guard }], guard := some (33, true) }) (v := ?_) rfl (by kernel_rfl) (by kernel_rfl) (by kernel_rfl) (fun _ _ _ h => h) (Or.inl ⟨by rfl, ?_⟩) (by assumption) ?_
    rotate_left 1
    · (intro W hSW; (try dsimp only at hSW); first | (go_simp; done) | (go_simp; with_reducible rfl))
    try simp only [Act.put, List.setIfInBounds_toArray, List.set_cons_zero, List.set_cons_succ]
    refine wpAnyH_take (i := 39) (oi := { dst := some 126, op := Op.move (Operand.tmp 17), type := 4, pos := "law.go:111", after := #[{ on := 33, ground := Ground.guard }], guard := some (33, true) }) (v := ?_) rfl (by kernel_rfl) (by kernel_rfl) (by kernel_rfl) (fun _ _ _ h => h) (Or.inl ⟨by rfl, ?_⟩) (by assumption) ?_
    rotate_left 1
    · (intro W hSW; (try dsimp only at hSW); first | (go_simp; done) | (go_simp; with_reducible rfl))
    try simp only [Act.put, List.setIfInBounds_toArray, List.set_cons_zero, List.set_cons_succ]
    refine wpAnyH_take (i := 40) (oi := { dst := some 127, op := Op.binOp BinOp.eql 4 (Operand.tmp 125) (Operand.tmp 126) 4, type := 4, pos := "law.go:111", after := #[{ on := 38, ground := Ground.data }, { on := 39, ground := Ground.data }, { on := 33, ground := Ground.guard }], guard := some (33, true) }) (v := ?_) rfl (by kernel_rfl) (by kernel_rfl) (by kernel_rfl) (fun _ _ _ h => h) (Or.inl ⟨by rfl, ?_⟩) (by assumption) ?_
    rotate_left 1
    · (intro W hSW; (try dsimp only at hSW); first | (go_simp; done) | (go_simp; with_reducible rfl))
    try simp only [Act.put, List.setIfInBounds_toArray, List.set_cons_zero, List.set_cons_succ]
    refine wpAnyH_ready (rs := [37]) (by kernel_rfl) (by simp) ?_
    refine (AllReadyH.cons (o := { dst := some 124, op := Op.call { callee := Callee.value (Operand.func 23), args := #[Operand.tmp 121, Operand.tmp 122, Operand.tmp 123], argTypes := #[25, 26, 3] }, type := 4, pos := "law.go:111", after := #[{ on := 34, ground := Ground.data }, { on := 35, ground := Ground.data }, { on := 36, ground := Ground.data }, { on := 33, ground := Ground.chain }, { on := 33, ground := Ground.guard }], guard := some (33, true) }) rfl (fun K hK => ?_) AllReadyH.nil)
    rw [if_pos (by rfl)]
    go_simp
    go_at_call 23
    refine (eval_at2 HNV.out r3 HVV.out.2.2.2 (by have := HL.out; have := HK.out; omega) (by rw [HNV.out]; omega) (good_bounds G3.out (by have := HL.out; have := HK.out; omega)) HR.out.2.2.1 (Hf.out.grown hgr4).2.2 (HBV.out.grown hgr4)).mono ?_
    rintro e wc5 ⟨rfl, gc5⟩
    have hgr5 := World.grownBy.trans hgr4 gc5
    go_wp2_with fail
    refine hK.out _ _ (HS.out _ hgr5) (fun hHeld => ?_)
    clear hK K
    try simp only [Act.put, List.setIfInBounds_toArray, List.set_cons_zero, List.set_cons_succ]
    refine wpAnyH_take (i := 41) (oi := { dst := some 128, op := Op.binOp BinOp.eql 4 (Operand.tmp 124) (Operand.tmp 127) 4, type := 4, pos := "law.go:111", after := #[{ on := 37, ground := Ground.data }, { on := 40, ground := Ground.data }, { on := 33, ground := Ground.guard }], guard := some (33, true) }) (v := ?_) rfl (by kernel_rfl) (by kernel_rfl) (by kernel_rfl) (fun _ _ _ h => h) (Or.inl ⟨by rfl, ?_⟩) (by assumption) ?_
    rotate_left 1
    · (intro W hSW; (try dsimp only at hSW); first | (go_simp; done) | (go_simp; with_reducible rfl))
    try simp only [Act.put, List.setIfInBounds_toArray, List.set_cons_zero, List.set_cons_succ]
    refine wpAnyH_take (i := 42) (oi := { dst := some 129, op := Op.pick (Operand.tmp 120) (Operand.tmp 128) (Operand.const (Value.bool false)), type := 4, pos := "law.go:111", after := #[{ on := 33, ground := Ground.data }, { on := 41, ground := Ground.data }], guard := none }) (v := ?_) rfl (by kernel_rfl) (by kernel_rfl) (by kernel_rfl) (fun _ _ _ h => h) (Or.inl ⟨by rfl, ?_⟩) (by assumption) ?_
    rotate_left 1
    · (intro W hSW; (try dsimp only at hSW); first | (go_simp; done) | (go_simp; with_reducible rfl))
    try simp only [Act.put, List.setIfInBounds_toArray, List.set_cons_zero, List.set_cons_succ]
    refine wpAnyH_take (i := 43) (oi := { dst := some 130, op := Op.move (Operand.tmp 129), type := 4, pos := "law.go:111", after := #[{ on := 42, ground := Ground.data }, { on := 37, ground := Ground.chain }], guard := none }) (v := ?_) rfl (by kernel_rfl) (by kernel_rfl) (by kernel_rfl) (fun _ _ _ h => h) (Or.inl ⟨by rfl, ?_⟩) (by assumption) ?_
    rotate_left 1
    · (intro W hSW; (try dsimp only at hSW); first | (go_simp; done) | (go_simp; with_reducible rfl))
    try simp only [Act.put, List.setIfInBounds_toArray, List.set_cons_zero, List.set_cons_succ]
    refine wpAnyH_take (i := 44) (oi := { dst := some 131, op := Op.load 25 (Operand.tmp 25), type := 25, pos := "law.go:111", after := #[{ on := 43, ground := Ground.guard }], guard := some (43, true) }) (v := ?_) rfl (by kernel_rfl) (by kernel_rfl) (by kernel_rfl) (fun _ _ _ h => h) (Or.inl ⟨by rfl, ?_⟩) (by assumption) ?_
    rotate_left 1
    · (intro W hSW; (try dsimp only at hSW); first | (go_simp; done) | (go_simp; with_reducible rfl))
    try simp only [Act.put, List.setIfInBounds_toArray, List.set_cons_zero, List.set_cons_succ]
    refine wpAnyH_take (i := 45) (oi := { dst := some 132, op := Op.move (Operand.tmp 4), type := 26, pos := "law.go:111", after := #[{ on := 43, ground := Ground.guard }], guard := some (43, true) }) (v := ?_) rfl (by kernel_rfl) (by kernel_rfl) (by kernel_rfl) (fun _ _ _ h => h) (Or.inl ⟨by rfl, ?_⟩) (by assumption) ?_
    rotate_left 1
    · (intro W hSW; (try dsimp only at hSW); first | (go_simp; done) | (go_simp; with_reducible rfl))
    try simp only [Act.put, List.setIfInBounds_toArray, List.set_cons_zero, List.set_cons_succ]
    refine wpAnyH_take (i := 46) (oi := { dst := some 133, op := Op.move (Operand.tmp 26), type := 3, pos := "law.go:111", after := #[{ on := 43, ground := Ground.guard }], guard := some (43, true) }) (v := ?_) rfl (by kernel_rfl) (by kernel_rfl) (by kernel_rfl) (fun _ _ _ h => h) (Or.inl ⟨by rfl, ?_⟩) (by assumption) ?_
    rotate_left 1
    · (intro W hSW; (try dsimp only at hSW); first | (go_simp; done) | (go_simp; with_reducible rfl))
    try simp only [Act.put, List.setIfInBounds_toArray, List.set_cons_zero, List.set_cons_succ]
    refine wpAnyH_take (i := 48) (oi := { dst := some 135, op := Op.move (Operand.tmp 24), type := 3, pos := "law.go:111", after := #[{ on := 43, ground := Ground.guard }], guard := some (43, true) }) (v := ?_) rfl (by kernel_rfl) (by kernel_rfl) (by kernel_rfl) (fun _ _ _ h => h) (Or.inl ⟨by rfl, ?_⟩) (by assumption) ?_
    rotate_left 1
    · (intro W hSW; (try dsimp only at hSW); first | (go_simp; done) | (go_simp; with_reducible rfl))
    try simp only [Act.put, List.setIfInBounds_toArray, List.set_cons_zero, List.set_cons_succ]
    refine wpAnyH_take (i := 49) (oi := { dst := some 136, op := Op.move (Operand.tmp 4), type := 26, pos := "law.go:111", after := #[{ on := 43, ground := Ground.guard }], guard := some (43, true) }) (v := ?_) rfl (by kernel_rfl) (by kernel_rfl) (by kernel_rfl) (fun _ _ _ h => h) (Or.inl ⟨by rfl, ?_⟩) (by assumption) ?_
    rotate_left 1
    · (intro W hSW; (try dsimp only at hSW); first | (go_simp; done) | (go_simp; with_reducible rfl))
    try simp only [Act.put, List.setIfInBounds_toArray, List.set_cons_zero, List.set_cons_succ]
    refine wpAnyH_take (i := 50) (oi := { dst := some 137, op := Op.call { callee := Callee.builtin Builtin.len, args := #[Operand.tmp 136], argTypes := #[26] }, type := 3, pos := "law.go:111", after := #[{ on := 49, ground := Ground.data }, { on := 43, ground := Ground.guard }], guard := some (43, true) }) (v := ?_) rfl (by kernel_rfl) (by kernel_rfl) (by kernel_rfl) (fun _ _ _ h => h) (Or.inl ⟨by rfl, ?_⟩) (by assumption) ?_
    rotate_left 1
    · (intro W hSW; (try dsimp only at hSW); first | (go_simp; done) | (go_simp; with_reducible rfl))
    try simp only [Act.put, List.setIfInBounds_toArray, List.set_cons_zero, List.set_cons_succ]
    refine wpAnyH_take (i := 51) (oi := { dst := some 138, op := Op.binOp BinOp.leq 3 (Operand.tmp 135) (Operand.tmp 137) 3, type := 4, pos := "law.go:111", after := #[{ on := 48, ground := Ground.data }, { on := 50, ground := Ground.data }, { on := 43, ground := Ground.guard }], guard := some (43, true) }) (v := ?_) rfl (by kernel_rfl) (by kernel_rfl) (by kernel_rfl) (fun _ _ _ h => h) (Or.inl ⟨by rfl, ?_⟩) (by assumption) ?_
    rotate_left 1
    · (intro W hSW; (try dsimp only at hSW); first | (go_simp; done) | (go_simp; with_reducible rfl))
    try simp only [Act.put, List.setIfInBounds_toArray, List.set_cons_zero, List.set_cons_succ]
    refine wpAnyH_ready (rs := [47]) (by kernel_rfl) (by simp) ?_
    refine (AllReadyH.cons (o := { dst := some 134, op := Op.call { callee := Callee.value (Operand.func 23), args := #[Operand.tmp 131, Operand.tmp 132, Operand.tmp 133], argTypes := #[25, 26, 3] }, type := 4, pos := "law.go:111", after := #[{ on := 44, ground := Ground.data }, { on := 45, ground := Ground.data }, { on := 46, ground := Ground.data }, { on := 43, ground := Ground.chain }, { on := 43, ground := Ground.guard }], guard := some (43, true) }) rfl (fun K hK => ?_) AllReadyH.nil)
    rw [if_pos (by rfl)]
    go_simp
    go_at_call 23
    refine (eval_at2 HNV.out r4 HIN.out (by have := HL.out; have := HK.out; omega) (by rw [HNV.out]; omega) (good_bounds G4.out (by have := HL.out; have := HK.out; omega)) HR.out.2.2.2 (Hg.out.grown hgr5).2.2 (HBV.out.grown hgr5)).mono ?_
    rintro e wc6 ⟨rfl, gc6⟩
    have hgr6 := World.grownBy.trans hgr5 gc6
    go_wp2_with fail
    refine hK.out _ _ (HS.out _ hgr6) (fun hHeld => ?_)
    clear hK K
    try simp only [Act.put, List.setIfInBounds_toArray, List.set_cons_zero, List.set_cons_succ]
    refine wpAnyH_take (i := 52) (oi := { dst := some 139, op := Op.move (Operand.tmp 138), type := 4, pos := "law.go:111", after := #[{ on := 51, ground := Ground.data }, { on := 47, ground := Ground.chain }, { on := 43, ground := Ground.guard }], guard := some (43, true) }) (v := ?_) rfl (by kernel_rfl) (by kernel_rfl) (by kernel_rfl) (fun _ _ _ h => h) (Or.inl ⟨by rfl, ?_⟩) (by assumption) ?_
    rotate_left 1
    · (intro W hSW; (try dsimp only at hSW); first | (go_simp; done) | (go_simp; with_reducible rfl))
    try simp only [Act.put, List.setIfInBounds_toArray, List.set_cons_zero, List.set_cons_succ]
    refine wpAnyH_take (i := 53) (oi := { dst := some 140, op := Op.move (Operand.tmp 4), type := 26, pos := "law.go:111", after := #[{ on := 52, ground := Ground.guard }], guard := some (52, true) }) (v := ?_) rfl (by kernel_rfl) (by kernel_rfl) (by kernel_rfl) (fun _ _ _ h => h) (Or.inl ⟨by rfl, ?_⟩) (by assumption) ?_
    rotate_left 1
    · (intro W hSW; (try dsimp only at hSW); first | (go_simp; done) | (go_simp; with_reducible rfl))
    try simp only [Act.put, List.setIfInBounds_toArray, List.set_cons_zero, List.set_cons_succ]
    refine wpAnyH_take (i := 54) (oi := { dst := some 141, op := Op.move (Operand.tmp 24), type := 3, pos := "law.go:111", after := #[{ on := 52, ground := Ground.guard }], guard := some (52, true) }) (v := ?_) rfl (by kernel_rfl) (by kernel_rfl) (by kernel_rfl) (fun _ _ _ h => h) (Or.inl ⟨by rfl, ?_⟩) (by assumption) ?_
    rotate_left 1
    · (intro W hSW; (try dsimp only at hSW); first | (go_simp; done) | (go_simp; with_reducible rfl))
    try simp only [Act.put, List.setIfInBounds_toArray, List.set_cons_zero, List.set_cons_succ]
    refine wpAnyH_take (i := 55) (oi := { dst := some 142, op := Op.binOp BinOp.sub 3 (Operand.tmp 141) (Operand.const (Value.int IntKind.i64 1)) 3, type := 3, pos := "law.go:111", after := #[{ on := 54, ground := Ground.data }, { on := 52, ground := Ground.guard }], guard := some (52, true) }) (v := ?_) rfl (by kernel_rfl) (by kernel_rfl) (by kernel_rfl) (fun _ _ _ h => h) (Or.inl ⟨by rfl, ?_⟩) (by assumption) ?_
    rotate_left 1
    · (intro W hSW; (try dsimp only at hSW); first | (go_simp; done) | (go_simp; with_reducible rfl))
    try simp only [Act.put, List.setIfInBounds_toArray, List.set_cons_zero, List.set_cons_succ]
    refine wpAnyH_take (i := 56) (oi := { dst := some 143, op := Op.indexAddr 26 (Operand.tmp 140) (Operand.tmp 142), type := 0, pos := "law.go:111", after := #[{ on := 53, ground := Ground.data }, { on := 55, ground := Ground.data }, { on := 52, ground := Ground.guard }], guard := some (52, true) }) (v := ?_) rfl (by kernel_rfl) (by kernel_rfl) (by kernel_rfl) (fun _ _ _ h => h) (Or.inl ⟨by rfl, ?_⟩) (by assumption) ?_
    rotate_left 1
    · (intro W hSW; (try dsimp only at hSW); first | (go_simp; done) | (go_simp; with_reducible rfl))
    try simp only [Act.put, List.setIfInBounds_toArray, List.set_cons_zero, List.set_cons_succ]
    refine wpAnyH_take (i := 57) (oi := { dst := some 144, op := Op.load 4 (Operand.tmp 143), type := 4, pos := "law.go:111", after := #[{ on := 56, ground := Ground.data }, { on := 52, ground := Ground.guard }], guard := some (52, true) }) (v := ?_) rfl (by kernel_rfl) (by kernel_rfl) (by kernel_rfl) (fun _ _ _ h => h) (Or.inl ⟨by rfl, ?_⟩) (by assumption) ?_
    rotate_left 1
    · (intro W hSW; (try dsimp only at hSW); first | (go_simp; done) | (go_simp; with_reducible rfl))
    try simp only [Act.put, List.setIfInBounds_toArray, List.set_cons_zero, List.set_cons_succ]
    refine wpAnyH_take (i := 58) (oi := { dst := some 145, op := Op.pick (Operand.tmp 139) (Operand.tmp 144) (Operand.const (Value.bool false)), type := 4, pos := "law.go:111", after := #[{ on := 52, ground := Ground.data }, { on := 57, ground := Ground.data }, { on := 43, ground := Ground.guard }], guard := some (43, true) }) (v := ?_) rfl (by kernel_rfl) (by kernel_rfl) (by kernel_rfl) (fun _ _ _ h => h) (Or.inl ⟨by rfl, ?_⟩) (by assumption) ?_
    rotate_left 1
    · (intro W hSW; (try dsimp only at hSW); first | (go_simp; done) | (go_simp; with_reducible rfl))
    try simp only [Act.put, List.setIfInBounds_toArray, List.set_cons_zero, List.set_cons_succ]
    refine wpAnyH_take (i := 59) (oi := { dst := some 146, op := Op.binOp BinOp.eql 4 (Operand.tmp 134) (Operand.tmp 145) 4, type := 4, pos := "law.go:111", after := #[{ on := 47, ground := Ground.data }, { on := 58, ground := Ground.data }, { on := 43, ground := Ground.guard }], guard := some (43, true) }) (v := ?_) rfl (by kernel_rfl) (by kernel_rfl) (by kernel_rfl) (fun _ _ _ h => h) (Or.inl ⟨by rfl, ?_⟩) (by assumption) ?_
    rotate_left 1
    · (intro W hSW; (try dsimp only at hSW); first | (go_simp; done) | (go_simp; with_reducible rfl))
    try simp only [Act.put, List.setIfInBounds_toArray, List.set_cons_zero, List.set_cons_succ]
    refine wpAnyH_take (i := 60) (oi := { dst := some 147, op := Op.pick (Operand.tmp 130) (Operand.tmp 146) (Operand.const (Value.bool false)), type := 4, pos := "law.go:111", after := #[{ on := 43, ground := Ground.data }, { on := 59, ground := Ground.data }], guard := none }) (v := ?_) rfl (by kernel_rfl) (by kernel_rfl) (by kernel_rfl) (fun _ _ _ h => h) (Or.inl ⟨by rfl, ?_⟩) (by assumption) ?_
    rotate_left 1
    · (intro W hSW; (try dsimp only at hSW); first | (go_simp; done) | (go_simp; with_reducible rfl))
    try simp only [Act.put, List.setIfInBounds_toArray, List.set_cons_zero, List.set_cons_succ]
    refine wpAnyH_take (i := 61) (oi := { dst := some 148, op := Op.move (Operand.tmp 147), type := 4, pos := "law.go:111", after := #[{ on := 60, ground := Ground.data }, { on := 52, ground := Ground.chain }], guard := none }) (v := ?_) rfl (by kernel_rfl) (by kernel_rfl) (by kernel_rfl) (fun _ _ _ h => h) (Or.inl ⟨by rfl, ?_⟩) (by assumption) ?_
    rotate_left 1
    · (intro W hSW; (try dsimp only at hSW); first | (go_simp; done) | (go_simp; with_reducible rfl))
    try simp only [Act.put, List.setIfInBounds_toArray, List.set_cons_zero, List.set_cons_succ]
    refine wpAnyH_take (i := 62) (oi := { dst := some 149, op := Op.load 25 (Operand.tmp 12), type := 25, pos := "law.go:111", after := #[{ on := 61, ground := Ground.guard }], guard := some (61, true) }) (v := ?_) rfl (by kernel_rfl) (by kernel_rfl) (by kernel_rfl) (fun _ _ _ h => h) (Or.inl ⟨by rfl, ?_⟩) (by assumption) ?_
    rotate_left 1
    · (intro W hSW; (try dsimp only at hSW); first | (go_simp; done) | (go_simp; with_reducible rfl))
    try simp only [Act.put, List.setIfInBounds_toArray, List.set_cons_zero, List.set_cons_succ]
    refine wpAnyH_take (i := 63) (oi := { dst := some 150, op := Op.move (Operand.tmp 4), type := 26, pos := "law.go:111", after := #[{ on := 61, ground := Ground.guard }], guard := some (61, true) }) (v := ?_) rfl (by kernel_rfl) (by kernel_rfl) (by kernel_rfl) (fun _ _ _ h => h) (Or.inl ⟨by rfl, ?_⟩) (by assumption) ?_
    rotate_left 1
    · (intro W hSW; (try dsimp only at hSW); first | (go_simp; done) | (go_simp; with_reducible rfl))
    try simp only [Act.put, List.setIfInBounds_toArray, List.set_cons_zero, List.set_cons_succ]
    refine wpAnyH_ready (rs := [64]) (by kernel_rfl) (by simp) ?_
    refine (AllReadyH.cons (o := { dst := some 151, op := Op.call { callee := Callee.value (Operand.func 23), args := #[Operand.tmp 149, Operand.tmp 150, Operand.const (Value.int IntKind.i64 0)], argTypes := #[25, 26, 3] }, type := 4, pos := "law.go:111", after := #[{ on := 62, ground := Ground.data }, { on := 63, ground := Ground.data }, { on := 61, ground := Ground.chain }, { on := 61, ground := Ground.guard }], guard := some (61, true) }) rfl (fun K hK => ?_) AllReadyH.nil)
    rw [if_pos (by rfl)]
    go_simp
    go_at_call 23
    refine (eval_at2 HNV.out 0 HTR.out (by have := HL.out; have := HK.out; omega) (by rw [HNV.out]; omega) (good_bounds HGD.out (by have := HL.out; have := HK.out; omega)) (by omega) (Hc.out.grown hgr6).2.2 (HBV.out.grown hgr6)).mono ?_
    rintro e wc7 ⟨rfl, gc7⟩
    have hgr7 := World.grownBy.trans hgr6 gc7
    go_wp2_with fail
    refine hK.out _ _ (HS.out _ hgr7) (fun hHeld => ?_)
    clear hK K
    try simp only [Act.put, List.setIfInBounds_toArray, List.set_cons_zero, List.set_cons_succ]
    refine wpAnyH_take (i := 65) (oi := { dst := some 152, op := Op.pick (Operand.tmp 148) (Operand.tmp 151) (Operand.const (Value.bool false)), type := 4, pos := "law.go:111", after := #[{ on := 61, ground := Ground.data }, { on := 64, ground := Ground.data }], guard := none }) (v := ?_) rfl (by kernel_rfl) (by kernel_rfl) (by kernel_rfl) (fun _ _ _ h => h) (Or.inl ⟨by rfl, ?_⟩) (by assumption) ?_
    rotate_left 1
    · (intro W hSW; (try dsimp only at hSW); first | (go_simp; done) | (go_simp; with_reducible rfl))
    try simp only [Act.put, List.setIfInBounds_toArray, List.set_cons_zero, List.set_cons_succ]
    refine wpAnyH_take (i := 66) (oi := { dst := some 10, op := Op.assign (Operand.tmp 152), type := 4, pos := "law.go:111", after := ([{ on := 65, ground := Ground.data }, { on := 64, ground := Ground.chain }, { on := 0, ground := Ground.phase }, { on := 1, ground := Ground.phase }, { on := 2, ground := Ground.phase }, { on := 3, ground := Ground.phase }, { on := 4, ground := Ground.phase }, { on := 5, ground := Ground.phase }, { on := 6, ground := Ground.phase }, { on := 7, ground := Ground.phase }, { on := 8, ground := Ground.phase }, { on := 9, ground := Ground.phase }, { on := 10, ground := Ground.phase }, { on := 11, ground := Ground.phase }, { on := 12, ground := Ground.phase }, { on := 13, ground := Ground.phase }, { on := 14, ground := Ground.phase }, { on := 15, ground := Ground.phase }, { on := 16, ground := Ground.phase }, { on := 17, ground := Ground.phase }, { on := 18, ground := Ground.phase }, { on := 19, ground := Ground.phase }, { on := 20, ground := Ground.phase }, { on := 21, ground := Ground.phase }, { on := 22, ground := Ground.phase }, { on := 23, ground := Ground.phase }, { on := 24, ground := Ground.phase }, { on := 25, ground := Ground.phase }, { on := 26, ground := Ground.phase }, { on := 27, ground := Ground.phase }, { on := 28, ground := Ground.phase }, { on := 29, ground := Ground.phase }, { on := 30, ground := Ground.phase }, { on := 31, ground := Ground.phase }].append [{ on := 32, ground := Ground.phase }, { on := 33, ground := Ground.phase }, { on := 34, ground := Ground.phase }, { on := 35, ground := Ground.phase }, { on := 36, ground := Ground.phase }, { on := 37, ground := Ground.phase }, { on := 38, ground := Ground.phase }, { on := 39, ground := Ground.phase }, { on := 40, ground := Ground.phase }, { on := 41, ground := Ground.phase }, { on := 42, ground := Ground.phase }, { on := 43, ground := Ground.phase }, { on := 44, ground := Ground.phase }, { on := 45, ground := Ground.phase }, { on := 46, ground := Ground.phase }, { on := 47, ground := Ground.phase }, { on := 48, ground := Ground.phase }, { on := 49, ground := Ground.phase }, { on := 50, ground := Ground.phase }, { on := 51, ground := Ground.phase }, { on := 52, ground := Ground.phase }, { on := 53, ground := Ground.phase }, { on := 54, ground := Ground.phase }, { on := 55, ground := Ground.phase }, { on := 56, ground := Ground.phase }, { on := 57, ground := Ground.phase }, { on := 58, ground := Ground.phase }, { on := 59, ground := Ground.phase }, { on := 60, ground := Ground.phase }, { on := 61, ground := Ground.phase }, { on := 62, ground := Ground.phase }, { on := 63, ground := Ground.phase }, { on := 64, ground := Ground.phase }, { on := 65, ground := Ground.phase }]).toArray, guard := none }) (v := ?_) rfl (by kernel_rfl) (by kernel_rfl) (by kernel_rfl) (fun _ _ _ h => h) (Or.inl ⟨by rfl, ?_⟩) (by assumption) ?_
    rotate_left 1
    · (intro W hSW; (try dsimp only at hSW); first | (go_simp; done) | (go_simp; with_reducible rfl))
    try simp only [Act.put, List.setIfInBounds_toArray, List.set_cons_zero, List.set_cons_succ]
    refine wpAnyH_done (by kernel_rfl) ?_ _
    have hEND := hgr7
    clear hHeld
    go_wp2_with fail
    go_ret
    exact ⟨rfl, World.grownBy.trans HG.out hEND⟩
  case true =>
    have v1 : evalC g1 vals r1 = q := by have h := HU.out.1; simpa using h
    have v2 : evalC g2 vals r2 = true := by have h := HU.out.2.1; simpa using h
    have v3 : evalC g3 vals r3 = (q) := by have h := HU.out.2.2.1; simpa using h
    have v0 : evalC g0 vals (notR x) = false := HNT.out
    have HVV := Lib.hid (And.intro v0 (And.intro v1 (And.intro v2 v3)))
    clear v0 v1 v2 v3
    obtain ⟨bv, ov, hva, xv⟩ := HBV.out.at HZ.out
    have u2 : IntKind.i64.wrap ((k : Int) % 20 + 1 - 1) = (i : Int) := by rw [IntWalk.i64_in _ (by omega)]; omega
    have u3 : (i : Int) < (nv : Int) := by have := (List.getElem?_eq_some_iff.1 HZ.out).1; rw [HNV.out] at this; omega
    have u4 : (0 : Int) ≤ (i : Int) := by omega
    have u5 : IntKind.i64.wrap (i : Int) = (i : Int) := IntWalk.i64_in _ (by omega)
    have u7 : decide ((i : Int) + 1 ≤ (nv : Int)) = true := decide_eq_true (by omega)
    have u8 : decide ((i : Int) < (nv : Int)) = true := decide_eq_true (by omega)
    have u9 : decide (i < nv) = true := decide_eq_true (by omega)
    have u10 : decide (i + 1 ≤ nv) = true := decide_eq_true (by omega)
    have u6 : IntKind.i64.wrap ((i : Int) + 1 - 1) = (i : Int) := by rw [IntWalk.i64_in _ (by omega)]; omega
    subst hva
    have HS := Lib.hid (fun (Wh : World) (hWh : V13.grownBy Wh none) => (⟨hWh, hWh.cell Hc.out.1 (by simp), hWh.cell Hd.out.1 (by simp), hWh.cell He.out.1 (by simp), hWh.cell Hf.out.1 (by simp), hWh.cell Hg.out.1 (by simp), hWh.cell xv (by simp)⟩ : (fun Wh : World => V13.grownBy Wh none ∧ Wh.cell? ⟨bc, 0, none⟩ = some (.slice a2 g0.length c2) ∧ Wh.cell? ⟨bd, 0, none⟩ = some (.slice a6 g1.length c6) ∧ Wh.cell? ⟨be, 0, none⟩ = some (.slice a8 g2.length c8) ∧ Wh.cell? ⟨bf, 0, none⟩ = some (.slice a10 g3.length c10) ∧ Wh.cell? ⟨bg, 0, none⟩ = some (.slice a12 g4.length c12) ∧ Wh.cell? ⟨bv, ov + i, none⟩ = some (.bool z)) Wh))
    have hdr : V13.grownBy V13.drew none := ⟨rfl, rfl, rfl, Nat.le_refl _, fun _ _ _ => rfl⟩
    refine wp_region_held_drew (S := (fun Wh : World => V13.grownBy Wh none ∧ Wh.cell? ⟨bc, 0, none⟩ = some (.slice a2 g0.length c2) ∧ Wh.cell? ⟨bd, 0, none⟩ = some (.slice a6 g1.length c6) ∧ Wh.cell? ⟨be, 0, none⟩ = some (.slice a8 g2.length c8) ∧ Wh.cell? ⟨bf, 0, none⟩ = some (.slice a10 g3.length c10) ∧ Wh.cell? ⟨bg, 0, none⟩ = some (.slice a12 g4.length c12) ∧ Wh.cell? ⟨bv, ov + i, none⟩ = some (.bool z))) (by kernel_rfl) (HS.out _ hdr) (fun hHeld => ?_)
    refine wpAnyH_take (i := 0) (oi := { dst := some 87, op := Op.move (Operand.tmp 11), type := 4, pos := "law.go:111", after := #[], guard := none }) (v := ?_) rfl (by kernel_rfl) (by kernel_rfl) (by kernel_rfl) (fun _ _ _ h => h) (Or.inl ⟨by rfl, ?_⟩) (by assumption) ?_
    rotate_left 1
    · (intro W hSW; (try dsimp only at hSW); first | (go_simp; done) | (go_simp; with_reducible rfl))
    try simp only [Act.put, List.setIfInBounds_toArray, List.set_cons_zero, List.set_cons_succ]
    refine wpAnyH_take (i := 1) (oi := { dst := some 88, op := Op.move (Operand.tmp 87), type := 4, pos := "law.go:111", after := #[{ on := 0, ground := Ground.data }], guard := none }) (v := ?_) rfl (by kernel_rfl) (by kernel_rfl) (by kernel_rfl) (fun _ _ _ h => h) (Or.inl ⟨by rfl, ?_⟩) (by assumption) ?_
    rotate_left 1
    · (intro W hSW; (try dsimp only at hSW); first | (go_simp; done) | (go_simp; with_reducible rfl))
    try simp only [Act.put, List.setIfInBounds_toArray, List.set_cons_zero, List.set_cons_succ]
    refine wpAnyH_take (i := 2) (oi := { dst := some 89, op := Op.load 25 (Operand.tmp 12), type := 25, pos := "law.go:111", after := #[{ on := 1, ground := Ground.guard }], guard := some (1, true) }) (v := ?_) rfl (by kernel_rfl) (by kernel_rfl) (by kernel_rfl) (fun _ _ _ h => h) (Or.inl ⟨by rfl, ?_⟩) (by assumption) ?_
    rotate_left 1
    · (intro W hSW; (try dsimp only at hSW); first | (go_simp; done) | (go_simp; with_reducible rfl))
    try simp only [Act.put, List.setIfInBounds_toArray, List.set_cons_zero, List.set_cons_succ]
    refine wpAnyH_take (i := 3) (oi := { dst := some 90, op := Op.move (Operand.tmp 4), type := 26, pos := "law.go:111", after := #[{ on := 1, ground := Ground.guard }], guard := some (1, true) }) (v := ?_) rfl (by kernel_rfl) (by kernel_rfl) (by kernel_rfl) (fun _ _ _ h => h) (Or.inl ⟨by rfl, ?_⟩) (by assumption) ?_
    rotate_left 1
    · (intro W hSW; (try dsimp only at hSW); first | (go_simp; done) | (go_simp; with_reducible rfl))
    try simp only [Act.put, List.setIfInBounds_toArray, List.set_cons_zero, List.set_cons_succ]
    refine wpAnyH_take (i := 4) (oi := { dst := some 91, op := Op.move (Operand.tmp 14), type := 3, pos := "law.go:111", after := #[{ on := 1, ground := Ground.guard }], guard := some (1, true) }) (v := ?_) rfl (by kernel_rfl) (by kernel_rfl) (by kernel_rfl) (fun _ _ _ h => h) (Or.inl ⟨by rfl, ?_⟩) (by assumption) ?_
    rotate_left 1
    · (intro W hSW; (try dsimp only at hSW); first | (go_simp; done) | (go_simp; with_reducible rfl))
    try simp only [Act.put, List.setIfInBounds_toArray, List.set_cons_zero, List.set_cons_succ]
    refine wpAnyH_take (i := 7) (oi := { dst := some 94, op := Op.move (Operand.tmp 16), type := 4, pos := "law.go:111", after := #[{ on := 1, ground := Ground.guard }], guard := some (1, true) }) (v := ?_) rfl (by kernel_rfl) (by kernel_rfl) (by kernel_rfl) (fun _ _ _ h => h) (Or.inl ⟨by rfl, ?_⟩) (by assumption) ?_
    rotate_left 1
    · (intro W hSW; (try dsimp only at hSW); first | (go_simp; done) | (go_simp; with_reducible rfl))
    try simp only [Act.put, List.setIfInBounds_toArray, List.set_cons_zero, List.set_cons_succ]
    refine wpAnyH_take (i := 8) (oi := { dst := some 95, op := Op.unOp UnOp.not 4 (Operand.tmp 94), type := 4, pos := "law.go:111", after := #[{ on := 7, ground := Ground.data }, { on := 1, ground := Ground.guard }], guard := some (1, true) }) (v := ?_) rfl (by kernel_rfl) (by kernel_rfl) (by kernel_rfl) (fun _ _ _ h => h) (Or.inl ⟨by rfl, ?_⟩) (by assumption) ?_
    rotate_left 1
    · (intro W hSW; (try dsimp only at hSW); first | (go_simp; done) | (go_simp; with_reducible rfl))
    try simp only [Act.put, List.setIfInBounds_toArray, List.set_cons_zero, List.set_cons_succ]
    refine wpAnyH_ready (rs := [5]) (by kernel_rfl) (by simp) ?_
    refine (AllReadyH.cons (o := { dst := some 92, op := Op.call { callee := Callee.value (Operand.func 25), args := #[Operand.tmp 91], argTypes := #[3] }, type := 3, pos := "law.go:111", after := #[{ on := 4, ground := Ground.data }, { on := 1, ground := Ground.chain }, { on := 1, ground := Ground.guard }], guard := some (1, true) }) rfl (fun K hK => ?_) AllReadyH.nil)
    rw [if_pos (by rfl)]
    go_simp
    go_at_call 25
    refine (not_at x Mx.out).mono ?_
    rintro e w9 ⟨rfl, hw9⟩
    rw [hw9]
    clear hw9 w9
    go_wp2_with fail
    refine hK.out _ _ (HS.out _ hdr) (fun hHeld => ?_)
    clear hK K
    try simp only [Act.put, List.setIfInBounds_toArray, List.set_cons_zero, List.set_cons_succ]
    refine wpAnyH_ready (rs := [6]) (by kernel_rfl) (by simp) ?_
    refine (AllReadyH.cons (o := { dst := some 93, op := Op.call { callee := Callee.value (Operand.func 23), args := #[Operand.tmp 89, Operand.tmp 90, Operand.tmp 92], argTypes := #[25, 26, 3] }, type := 4, pos := "law.go:111", after := #[{ on := 2, ground := Ground.data }, { on := 3, ground := Ground.data }, { on := 5, ground := Ground.data }, { on := 5, ground := Ground.chain }, { on := 1, ground := Ground.guard }], guard := some (1, true) }) rfl (fun K hK => ?_) AllReadyH.nil)
    rw [if_pos (by rfl)]
    go_simp
    go_at_call 23
    refine (eval_at2 HNV.out (notR x) HVV.out.1 (by have := HL.out; have := HK.out; omega) (by rw [HNV.out]; omega) (good_bounds HGD.out (by have := HL.out; have := HK.out; omega)) (notR_le Mx.out) (Hc.out.grown hdr).2.2 (HBV.out.grown hdr)).mono ?_
    rintro e wc2 ⟨rfl, gc2⟩
    have hgr2 := World.grownBy.trans hdr gc2
    go_wp2_with fail
    refine hK.out _ _ (HS.out _ hgr2) (fun hHeld => ?_)
    clear hK K
    try simp only [Act.put, List.setIfInBounds_toArray, List.set_cons_zero, List.set_cons_succ]
    refine wpAnyH_take (i := 9) (oi := { dst := some 96, op := Op.binOp BinOp.eql 4 (Operand.tmp 93) (Operand.tmp 95) 4, type := 4, pos := "law.go:111", after := #[{ on := 6, ground := Ground.data }, { on := 8, ground := Ground.data }, { on := 1, ground := Ground.guard }], guard := some (1, true) }) (v := ?_) rfl (by kernel_rfl) (by kernel_rfl) (by kernel_rfl) (fun _ _ _ h => h) (Or.inl ⟨by rfl, ?_⟩) (by assumption) ?_
    rotate_left 1
    · (intro W hSW; (try dsimp only at hSW); first | (go_simp; done) | (go_simp; with_reducible rfl))
    try simp only [Act.put, List.setIfInBounds_toArray, List.set_cons_zero, List.set_cons_succ]
    refine wpAnyH_take (i := 10) (oi := { dst := some 97, op := Op.pick (Operand.tmp 88) (Operand.tmp 96) (Operand.const (Value.bool false)), type := 4, pos := "law.go:111", after := #[{ on := 1, ground := Ground.data }, { on := 9, ground := Ground.data }], guard := none }) (v := ?_) rfl (by kernel_rfl) (by kernel_rfl) (by kernel_rfl) (fun _ _ _ h => h) (Or.inl ⟨by rfl, ?_⟩) (by assumption) ?_
    rotate_left 1
    · (intro W hSW; (try dsimp only at hSW); first | (go_simp; done) | (go_simp; with_reducible rfl))
    try simp only [Act.put, List.setIfInBounds_toArray, List.set_cons_zero, List.set_cons_succ]
    refine wpAnyH_take (i := 11) (oi := { dst := some 98, op := Op.move (Operand.tmp 97), type := 4, pos := "law.go:111", after := #[{ on := 10, ground := Ground.data }, { on := 6, ground := Ground.chain }], guard := none }) (v := ?_) rfl (by kernel_rfl) (by kernel_rfl) (by kernel_rfl) (fun _ _ _ h => h) (Or.inl ⟨by rfl, ?_⟩) (by assumption) ?_
    rotate_left 1
    · (intro W hSW; (try dsimp only at hSW); first | (go_simp; done) | (go_simp; with_reducible rfl))
    try simp only [Act.put, List.setIfInBounds_toArray, List.set_cons_zero, List.set_cons_succ]
    refine wpAnyH_take (i := 12) (oi := { dst := some 99, op := Op.load 25 (Operand.tmp 18), type := 25, pos := "law.go:111", after := #[{ on := 11, ground := Ground.guard }], guard := some (11, true) }) (v := ?_) rfl (by kernel_rfl) (by kernel_rfl) (by kernel_rfl) (fun _ _ _ h => h) (Or.inl ⟨by rfl, ?_⟩) (by assumption) ?_
    rotate_left 1
    · (intro W hSW; (try dsimp only at hSW); first | (go_simp; done) | (go_simp; with_reducible rfl))
    try simp only [Act.put, List.setIfInBounds_toArray, List.set_cons_zero, List.set_cons_succ]
    refine wpAnyH_take (i := 13) (oi := { dst := some 100, op := Op.move (Operand.tmp 4), type := 26, pos := "law.go:111", after := #[{ on := 11, ground := Ground.guard }], guard := some (11, true) }) (v := ?_) rfl (by kernel_rfl) (by kernel_rfl) (by kernel_rfl) (fun _ _ _ h => h) (Or.inl ⟨by rfl, ?_⟩) (by assumption) ?_
    rotate_left 1
    · (intro W hSW; (try dsimp only at hSW); first | (go_simp; done) | (go_simp; with_reducible rfl))
    try simp only [Act.put, List.setIfInBounds_toArray, List.set_cons_zero, List.set_cons_succ]
    refine wpAnyH_take (i := 14) (oi := { dst := some 101, op := Op.move (Operand.tmp 19), type := 3, pos := "law.go:111", after := #[{ on := 11, ground := Ground.guard }], guard := some (11, true) }) (v := ?_) rfl (by kernel_rfl) (by kernel_rfl) (by kernel_rfl) (fun _ _ _ h => h) (Or.inl ⟨by rfl, ?_⟩) (by assumption) ?_
    rotate_left 1
    · (intro W hSW; (try dsimp only at hSW); first | (go_simp; done) | (go_simp; with_reducible rfl))
    try simp only [Act.put, List.setIfInBounds_toArray, List.set_cons_zero, List.set_cons_succ]
    refine wpAnyH_take (i := 16) (oi := { dst := some 103, op := Op.move (Operand.tmp 16), type := 4, pos := "law.go:111", after := #[{ on := 11, ground := Ground.guard }], guard := some (11, true) }) (v := ?_) rfl (by kernel_rfl) (by kernel_rfl) (by kernel_rfl) (fun _ _ _ h => h) (Or.inl ⟨by rfl, ?_⟩) (by assumption) ?_
    rotate_left 1
    · (intro W hSW; (try dsimp only at hSW); first | (go_simp; done) | (go_simp; with_reducible rfl))
    try simp only [Act.put, List.setIfInBounds_toArray, List.set_cons_zero, List.set_cons_succ]
    refine wpAnyH_ready (rs := [15]) (by kernel_rfl) (by simp) ?_
    refine (AllReadyH.cons (o := { dst := some 102, op := Op.call { callee := Callee.value (Operand.func 23), args := #[Operand.tmp 99, Operand.tmp 100, Operand.tmp 101], argTypes := #[25, 26, 3] }, type := 4, pos := "law.go:111", after := #[{ on := 12, ground := Ground.data }, { on := 13, ground := Ground.data }, { on := 14, ground := Ground.data }, { on := 11, ground := Ground.chain }, { on := 11, ground := Ground.guard }], guard := some (11, true) }) rfl (fun K hK => ?_) AllReadyH.nil)
    rw [if_pos (by rfl)]
    go_simp
    go_at_call 23
    refine (eval_at2 HNV.out r1 HVV.out.2.1 (by have := HL.out; have := HK.out; omega) (by rw [HNV.out]; omega) (good_bounds G1.out (by have := HL.out; have := HK.out; omega)) HR.out.1 (Hd.out.grown hgr2).2.2 (HBV.out.grown hgr2)).mono ?_
    rintro e wc3 ⟨rfl, gc3⟩
    have hgr3 := World.grownBy.trans hgr2 gc3
    go_wp2_with fail
    refine hK.out _ _ (HS.out _ hgr3) (fun hHeld => ?_)
    clear hK K
    try simp only [Act.put, List.setIfInBounds_toArray, List.set_cons_zero, List.set_cons_succ]
    refine wpAnyH_take (i := 17) (oi := { dst := some 104, op := Op.move (Operand.tmp 103), type := 4, pos := "law.go:111", after := #[{ on := 16, ground := Ground.data }, { on := 15, ground := Ground.chain }, { on := 11, ground := Ground.guard }], guard := some (11, true) }) (v := ?_) rfl (by kernel_rfl) (by kernel_rfl) (by kernel_rfl) (fun _ _ _ h => h) (Or.inl ⟨by rfl, ?_⟩) (by assumption) ?_
    rotate_left 1
    · (intro W hSW; (try dsimp only at hSW); first | (go_simp; done) | (go_simp; with_reducible rfl))
    try simp only [Act.put, List.setIfInBounds_toArray, List.set_cons_zero, List.set_cons_succ]
    refine wpAnyH_take (i := 18) (oi := { dst := some 105, op := Op.move (Operand.tmp 17), type := 4, pos := "law.go:111", after := #[{ on := 17, ground := Ground.guard }], guard := some (17, true) }) (v := ?_) rfl (by kernel_rfl) (by kernel_rfl) (by kernel_rfl) (fun _ _ _ h => h) (Or.inl ⟨by rfl, ?_⟩) (by assumption) ?_
    rotate_left 1
    · (intro W hSW; (try dsimp only at hSW); first | (go_simp; done) | (go_simp; with_reducible rfl))
    try simp only [Act.put, List.setIfInBounds_toArray, List.set_cons_zero, List.set_cons_succ]
    refine wpAnyH_take (i := 19) (oi := { dst := some 106, op := Op.pick (Operand.tmp 104) (Operand.tmp 105) (Operand.const (Value.bool false)), type := 4, pos := "law.go:111", after := #[{ on := 17, ground := Ground.data }, { on := 18, ground := Ground.data }, { on := 11, ground := Ground.guard }], guard := some (11, true) }) (v := ?_) rfl (by kernel_rfl) (by kernel_rfl) (by kernel_rfl) (fun _ _ _ h => h) (Or.inl ⟨by rfl, ?_⟩) (by assumption) ?_
    rotate_left 1
    · (intro W hSW; (try dsimp only at hSW); first | (go_simp; done) | (go_simp; with_reducible rfl))
    try simp only [Act.put, List.setIfInBounds_toArray, List.set_cons_zero, List.set_cons_succ]
    refine wpAnyH_take (i := 20) (oi := { dst := some 107, op := Op.binOp BinOp.eql 4 (Operand.tmp 102) (Operand.tmp 106) 4, type := 4, pos := "law.go:111", after := #[{ on := 15, ground := Ground.data }, { on := 19, ground := Ground.data }, { on := 11, ground := Ground.guard }], guard := some (11, true) }) (v := ?_) rfl (by kernel_rfl) (by kernel_rfl) (by kernel_rfl) (fun _ _ _ h => h) (Or.inl ⟨by rfl, ?_⟩) (by assumption) ?_
    rotate_left 1
    · (intro W hSW; (try dsimp only at hSW); first | (go_simp; done) | (go_simp; with_reducible rfl))
    try simp only [Act.put, List.setIfInBounds_toArray, List.set_cons_zero, List.set_cons_succ]
    refine wpAnyH_take (i := 21) (oi := { dst := some 108, op := Op.pick (Operand.tmp 98) (Operand.tmp 107) (Operand.const (Value.bool false)), type := 4, pos := "law.go:111", after := #[{ on := 11, ground := Ground.data }, { on := 20, ground := Ground.data }], guard := none }) (v := ?_) rfl (by kernel_rfl) (by kernel_rfl) (by kernel_rfl) (fun _ _ _ h => h) (Or.inl ⟨by rfl, ?_⟩) (by assumption) ?_
    rotate_left 1
    · (intro W hSW; (try dsimp only at hSW); first | (go_simp; done) | (go_simp; with_reducible rfl))
    try simp only [Act.put, List.setIfInBounds_toArray, List.set_cons_zero, List.set_cons_succ]
    refine wpAnyH_take (i := 22) (oi := { dst := some 109, op := Op.move (Operand.tmp 108), type := 4, pos := "law.go:111", after := #[{ on := 21, ground := Ground.data }, { on := 17, ground := Ground.chain }], guard := none }) (v := ?_) rfl (by kernel_rfl) (by kernel_rfl) (by kernel_rfl) (fun _ _ _ h => h) (Or.inl ⟨by rfl, ?_⟩) (by assumption) ?_
    rotate_left 1
    · (intro W hSW; (try dsimp only at hSW); first | (go_simp; done) | (go_simp; with_reducible rfl))
    try simp only [Act.put, List.setIfInBounds_toArray, List.set_cons_zero, List.set_cons_succ]
    refine wpAnyH_take (i := 23) (oi := { dst := some 110, op := Op.load 25 (Operand.tmp 20), type := 25, pos := "law.go:111", after := #[{ on := 22, ground := Ground.guard }], guard := some (22, true) }) (v := ?_) rfl (by kernel_rfl) (by kernel_rfl) (by kernel_rfl) (fun _ _ _ h => h) (Or.inl ⟨by rfl, ?_⟩) (by assumption) ?_
    rotate_left 1
    · (intro W hSW; (try dsimp only at hSW); first | (go_simp; done) | (go_simp; with_reducible rfl))
    try simp only [Act.put, List.setIfInBounds_toArray, List.set_cons_zero, List.set_cons_succ]
    refine wpAnyH_take (i := 24) (oi := { dst := some 111, op := Op.move (Operand.tmp 4), type := 26, pos := "law.go:111", after := #[{ on := 22, ground := Ground.guard }], guard := some (22, true) }) (v := ?_) rfl (by kernel_rfl) (by kernel_rfl) (by kernel_rfl) (fun _ _ _ h => h) (Or.inl ⟨by rfl, ?_⟩) (by assumption) ?_
    rotate_left 1
    · (intro W hSW; (try dsimp only at hSW); first | (go_simp; done) | (go_simp; with_reducible rfl))
    try simp only [Act.put, List.setIfInBounds_toArray, List.set_cons_zero, List.set_cons_succ]
    refine wpAnyH_take (i := 25) (oi := { dst := some 112, op := Op.move (Operand.tmp 21), type := 3, pos := "law.go:111", after := #[{ on := 22, ground := Ground.guard }], guard := some (22, true) }) (v := ?_) rfl (by kernel_rfl) (by kernel_rfl) (by kernel_rfl) (fun _ _ _ h => h) (Or.inl ⟨by rfl, ?_⟩) (by assumption) ?_
    rotate_left 1
    · (intro W hSW; (try dsimp only at hSW); first | (go_simp; done) | (go_simp; with_reducible rfl))
    try simp only [Act.put, List.setIfInBounds_toArray, List.set_cons_zero, List.set_cons_succ]
    refine wpAnyH_take (i := 27) (oi := { dst := some 114, op := Op.move (Operand.tmp 16), type := 4, pos := "law.go:111", after := #[{ on := 22, ground := Ground.guard }], guard := some (22, true) }) (v := ?_) rfl (by kernel_rfl) (by kernel_rfl) (by kernel_rfl) (fun _ _ _ h => h) (Or.inl ⟨by rfl, ?_⟩) (by assumption) ?_
    rotate_left 1
    · (intro W hSW; (try dsimp only at hSW); first | (go_simp; done) | (go_simp; with_reducible rfl))
    try simp only [Act.put, List.setIfInBounds_toArray, List.set_cons_zero, List.set_cons_succ]
    refine wpAnyH_ready (rs := [26]) (by kernel_rfl) (by simp) ?_
    refine (AllReadyH.cons (o := { dst := some 113, op := Op.call { callee := Callee.value (Operand.func 23), args := #[Operand.tmp 110, Operand.tmp 111, Operand.tmp 112], argTypes := #[25, 26, 3] }, type := 4, pos := "law.go:111", after := #[{ on := 23, ground := Ground.data }, { on := 24, ground := Ground.data }, { on := 25, ground := Ground.data }, { on := 22, ground := Ground.chain }, { on := 22, ground := Ground.guard }], guard := some (22, true) }) rfl (fun K hK => ?_) AllReadyH.nil)
    rw [if_pos (by rfl)]
    go_simp
    go_at_call 23
    refine (eval_at2 HNV.out r2 HVV.out.2.2.1 (by have := HL.out; have := HK.out; omega) (by rw [HNV.out]; omega) (good_bounds G2.out (by have := HL.out; have := HK.out; omega)) HR.out.2.1 (He.out.grown hgr3).2.2 (HBV.out.grown hgr3)).mono ?_
    rintro e wc4 ⟨rfl, gc4⟩
    have hgr4 := World.grownBy.trans hgr3 gc4
    go_wp2_with fail
    refine hK.out _ _ (HS.out _ hgr4) (fun hHeld => ?_)
    clear hK K
    try simp only [Act.put, List.setIfInBounds_toArray, List.set_cons_zero, List.set_cons_succ]
    refine wpAnyH_take (i := 28) (oi := { dst := some 115, op := Op.move (Operand.tmp 114), type := 4, pos := "law.go:111", after := #[{ on := 27, ground := Ground.data }, { on := 26, ground := Ground.chain }, { on := 22, ground := Ground.guard }], guard := some (22, true) }) (v := ?_) rfl (by kernel_rfl) (by kernel_rfl) (by kernel_rfl) (fun _ _ _ h => h) (Or.inl ⟨by rfl, ?_⟩) (by assumption) ?_
    rotate_left 1
    · (intro W hSW; (try dsimp only at hSW); first | (go_simp; done) | (go_simp; with_reducible rfl))
    try simp only [Act.put, List.setIfInBounds_toArray, List.set_cons_zero, List.set_cons_succ]
    refine wpAnyH_take (i := 29) (oi := { dst := some 116, op := Op.move (Operand.tmp 17), type := 4, pos := "law.go:111", after := #[{ on := 28, ground := Ground.guard }], guard := some (28, false) }) (v := undef) rfl (by kernel_rfl) (by kernel_rfl) (by kernel_rfl) (fun _ _ _ h => h) (Or.inr ⟨by rfl, rfl⟩) (by assumption) ?_
    try simp only [Act.put, List.setIfInBounds_toArray, List.set_cons_zero, List.set_cons_succ]
    refine wpAnyH_take (i := 30) (oi := { dst := some 117, op := Op.pick (Operand.tmp 115) (Operand.const (Value.bool true)) (Operand.tmp 116), type := 4, pos := "law.go:111", after := #[{ on := 28, ground := Ground.data }, { on := 29, ground := Ground.data }, { on := 22, ground := Ground.guard }], guard := some (22, true) }) (v := ?_) rfl (by kernel_rfl) (by kernel_rfl) (by kernel_rfl) (fun _ _ _ h => h) (Or.inl ⟨by rfl, ?_⟩) (by assumption) ?_
    rotate_left 1
    · (intro W hSW; (try dsimp only at hSW); first | (go_simp; done) | (go_simp; with_reducible rfl))
    try simp only [Act.put, List.setIfInBounds_toArray, List.set_cons_zero, List.set_cons_succ]
    refine wpAnyH_take (i := 31) (oi := { dst := some 118, op := Op.binOp BinOp.eql 4 (Operand.tmp 113) (Operand.tmp 117) 4, type := 4, pos := "law.go:111", after := #[{ on := 26, ground := Ground.data }, { on := 30, ground := Ground.data }, { on := 22, ground := Ground.guard }], guard := some (22, true) }) (v := ?_) rfl (by kernel_rfl) (by kernel_rfl) (by kernel_rfl) (fun _ _ _ h => h) (Or.inl ⟨by rfl, ?_⟩) (by assumption) ?_
    rotate_left 1
    · (intro W hSW; (try dsimp only at hSW); first | (go_simp; done) | (go_simp; with_reducible rfl))
    try simp only [Act.put, List.setIfInBounds_toArray, List.set_cons_zero, List.set_cons_succ]
    refine wpAnyH_take (i := 32) (oi := { dst := some 119, op := Op.pick (Operand.tmp 109) (Operand.tmp 118) (Operand.const (Value.bool false)), type := 4, pos := "law.go:111", after := #[{ on := 22, ground := Ground.data }, { on := 31, ground := Ground.data }], guard := none }) (v := ?_) rfl (by kernel_rfl) (by kernel_rfl) (by kernel_rfl) (fun _ _ _ h => h) (Or.inl ⟨by rfl, ?_⟩) (by assumption) ?_
    rotate_left 1
    · (intro W hSW; (try dsimp only at hSW); first | (go_simp; done) | (go_simp; with_reducible rfl))
    try simp only [Act.put, List.setIfInBounds_toArray, List.set_cons_zero, List.set_cons_succ]
    refine wpAnyH_take (i := 33) (oi := { dst := some 120, op := Op.move (Operand.tmp 119), type := 4, pos := "law.go:111", after := #[{ on := 32, ground := Ground.data }, { on := 28, ground := Ground.chain }], guard := none }) (v := ?_) rfl (by kernel_rfl) (by kernel_rfl) (by kernel_rfl) (fun _ _ _ h => h) (Or.inl ⟨by rfl, ?_⟩) (by assumption) ?_
    rotate_left 1
    · (intro W hSW; (try dsimp only at hSW); first | (go_simp; done) | (go_simp; with_reducible rfl))
    try simp only [Act.put, List.setIfInBounds_toArray, List.set_cons_zero, List.set_cons_succ]
    refine wpAnyH_take (i := 34) (oi := { dst := some 121, op := Op.load 25 (Operand.tmp 22), type := 25, pos := "law.go:111", after := #[{ on := 33, ground := Ground.guard }], guard := some (33, true) }) (v := ?_) rfl (by kernel_rfl) (by kernel_rfl) (by kernel_rfl) (fun _ _ _ h => h) (Or.inl ⟨by rfl, ?_⟩) (by assumption) ?_
    rotate_left 1
    · (intro W hSW; (try dsimp only at hSW); first | (go_simp; done) | (go_simp; with_reducible rfl))
    try simp only [Act.put, List.setIfInBounds_toArray, List.set_cons_zero, List.set_cons_succ]
    refine wpAnyH_take (i := 35) (oi := { dst := some 122, op := Op.move (Operand.tmp 4), type := 26, pos := "law.go:111", after := #[{ on := 33, ground := Ground.guard }], guard := some (33, true) }) (v := ?_) rfl (by kernel_rfl) (by kernel_rfl) (by kernel_rfl) (fun _ _ _ h => h) (Or.inl ⟨by rfl, ?_⟩) (by assumption) ?_
    rotate_left 1
    · (intro W hSW; (try dsimp only at hSW); first | (go_simp; done) | (go_simp; with_reducible rfl))
    try simp only [Act.put, List.setIfInBounds_toArray, List.set_cons_zero, List.set_cons_succ]
    refine wpAnyH_take (i := 36) (oi := { dst := some 123, op := Op.move (Operand.tmp 23), type := 3, pos := "law.go:111", after := #[{ on := 33, ground := Ground.guard }], guard := some (33, true) }) (v := ?_) rfl (by kernel_rfl) (by kernel_rfl) (by kernel_rfl) (fun _ _ _ h => h) (Or.inl ⟨by rfl, ?_⟩) (by assumption) ?_
    rotate_left 1
    · (intro W hSW; (try dsimp only at hSW); first | (go_simp; done) | (go_simp; with_reducible rfl))
    try simp only [Act.put, List.setIfInBounds_toArray, List.set_cons_zero, List.set_cons_succ]
    refine wpAnyH_take (i := 38) (oi := { dst := some 125, op := Op.move (Operand.tmp 16), type := 4, pos := "law.go:111", after := #[{ on := 33, ground := Ground.guard }], guard := some (33, true) }) (v := ?_) rfl (by kernel_rfl) (by kernel_rfl) (by kernel_rfl) (fun _ _ _ h => h) (Or.inl ⟨by rfl, ?_⟩) (by assumption) ?_
    rotate_left 1
    · (intro W hSW; (try dsimp only at hSW); first | (go_simp; done) | (go_simp; with_reducible rfl))
    try simp only [Act.put, List.setIfInBounds_toArray, List.set_cons_zero, List.set_cons_succ]
    refine wpAnyH_take (i := 39) (oi := { dst := some 126, op := Op.move (Operand.tmp 17), type := 4, pos := "law.go:111", after := #[{ on := 33, ground := Ground.guard }], guard := some (33, true) }) (v := ?_) rfl (by kernel_rfl) (by kernel_rfl) (by kernel_rfl) (fun _ _ _ h => h) (Or.inl ⟨by rfl, ?_⟩) (by assumption) ?_
    rotate_left 1
    · (intro W hSW; (try dsimp only at hSW); first | (go_simp; done) | (go_simp; with_reducible rfl))
    try simp only [Act.put, List.setIfInBounds_toArray, List.set_cons_zero, List.set_cons_succ]
    refine wpAnyH_take (i := 40) (oi := { dst := some 127, op := Op.binOp BinOp.eql 4 (Operand.tmp 125) (Operand.tmp 126) 4, type := 4, pos := "law.go:111", after := #[{ on := 38, ground := Ground.data }, { on := 39, ground := Ground.data }, { on := 33, ground := Ground.guard }], guard := some (33, true) }) (v := ?_) rfl (by kernel_rfl) (by kernel_rfl) (by kernel_rfl) (fun _ _ _ h => h) (Or.inl ⟨by rfl, ?_⟩) (by assumption) ?_
    rotate_left 1
    · (intro W hSW; (try dsimp only at hSW); first | (go_simp; done) | (go_simp; with_reducible rfl))
    try simp only [Act.put, List.setIfInBounds_toArray, List.set_cons_zero, List.set_cons_succ]
    refine wpAnyH_ready (rs := [37]) (by kernel_rfl) (by simp) ?_
    refine (AllReadyH.cons (o := { dst := some 124, op := Op.call { callee := Callee.value (Operand.func 23), args := #[Operand.tmp 121, Operand.tmp 122, Operand.tmp 123], argTypes := #[25, 26, 3] }, type := 4, pos := "law.go:111", after := #[{ on := 34, ground := Ground.data }, { on := 35, ground := Ground.data }, { on := 36, ground := Ground.data }, { on := 33, ground := Ground.chain }, { on := 33, ground := Ground.guard }], guard := some (33, true) }) rfl (fun K hK => ?_) AllReadyH.nil)
    rw [if_pos (by rfl)]
    go_simp
    go_at_call 23
    refine (eval_at2 HNV.out r3 HVV.out.2.2.2 (by have := HL.out; have := HK.out; omega) (by rw [HNV.out]; omega) (good_bounds G3.out (by have := HL.out; have := HK.out; omega)) HR.out.2.2.1 (Hf.out.grown hgr4).2.2 (HBV.out.grown hgr4)).mono ?_
    rintro e wc5 ⟨rfl, gc5⟩
    have hgr5 := World.grownBy.trans hgr4 gc5
    go_wp2_with fail
    refine hK.out _ _ (HS.out _ hgr5) (fun hHeld => ?_)
    clear hK K
    try simp only [Act.put, List.setIfInBounds_toArray, List.set_cons_zero, List.set_cons_succ]
    refine wpAnyH_take (i := 41) (oi := { dst := some 128, op := Op.binOp BinOp.eql 4 (Operand.tmp 124) (Operand.tmp 127) 4, type := 4, pos := "law.go:111", after := #[{ on := 37, ground := Ground.data }, { on := 40, ground := Ground.data }, { on := 33, ground := Ground.guard }], guard := some (33, true) }) (v := ?_) rfl (by kernel_rfl) (by kernel_rfl) (by kernel_rfl) (fun _ _ _ h => h) (Or.inl ⟨by rfl, ?_⟩) (by assumption) ?_
    rotate_left 1
    · (intro W hSW; (try dsimp only at hSW); first | (go_simp; done) | (go_simp; with_reducible rfl))
    try simp only [Act.put, List.setIfInBounds_toArray, List.set_cons_zero, List.set_cons_succ]
    refine wpAnyH_take (i := 42) (oi := { dst := some 129, op := Op.pick (Operand.tmp 120) (Operand.tmp 128) (Operand.const (Value.bool false)), type := 4, pos := "law.go:111", after := #[{ on := 33, ground := Ground.data }, { on := 41, ground := Ground.data }], guard := none }) (v := ?_) rfl (by kernel_rfl) (by kernel_rfl) (by kernel_rfl) (fun _ _ _ h => h) (Or.inl ⟨by rfl, ?_⟩) (by assumption) ?_
    rotate_left 1
    · (intro W hSW; (try dsimp only at hSW); first | (go_simp; done) | (go_simp; with_reducible rfl))
    try simp only [Act.put, List.setIfInBounds_toArray, List.set_cons_zero, List.set_cons_succ]
    refine wpAnyH_take (i := 43) (oi := { dst := some 130, op := Op.move (Operand.tmp 129), type := 4, pos := "law.go:111", after := #[{ on := 42, ground := Ground.data }, { on := 37, ground := Ground.chain }], guard := none }) (v := ?_) rfl (by kernel_rfl) (by kernel_rfl) (by kernel_rfl) (fun _ _ _ h => h) (Or.inl ⟨by rfl, ?_⟩) (by assumption) ?_
    rotate_left 1
    · (intro W hSW; (try dsimp only at hSW); first | (go_simp; done) | (go_simp; with_reducible rfl))
    try simp only [Act.put, List.setIfInBounds_toArray, List.set_cons_zero, List.set_cons_succ]
    refine wpAnyH_take (i := 44) (oi := { dst := some 131, op := Op.load 25 (Operand.tmp 25), type := 25, pos := "law.go:111", after := #[{ on := 43, ground := Ground.guard }], guard := some (43, true) }) (v := ?_) rfl (by kernel_rfl) (by kernel_rfl) (by kernel_rfl) (fun _ _ _ h => h) (Or.inl ⟨by rfl, ?_⟩) (by assumption) ?_
    rotate_left 1
    · (intro W hSW; (try dsimp only at hSW); first | (go_simp; done) | (go_simp; with_reducible rfl))
    try simp only [Act.put, List.setIfInBounds_toArray, List.set_cons_zero, List.set_cons_succ]
    refine wpAnyH_take (i := 45) (oi := { dst := some 132, op := Op.move (Operand.tmp 4), type := 26, pos := "law.go:111", after := #[{ on := 43, ground := Ground.guard }], guard := some (43, true) }) (v := ?_) rfl (by kernel_rfl) (by kernel_rfl) (by kernel_rfl) (fun _ _ _ h => h) (Or.inl ⟨by rfl, ?_⟩) (by assumption) ?_
    rotate_left 1
    · (intro W hSW; (try dsimp only at hSW); first | (go_simp; done) | (go_simp; with_reducible rfl))
    try simp only [Act.put, List.setIfInBounds_toArray, List.set_cons_zero, List.set_cons_succ]
    refine wpAnyH_take (i := 46) (oi := { dst := some 133, op := Op.move (Operand.tmp 26), type := 3, pos := "law.go:111", after := #[{ on := 43, ground := Ground.guard }], guard := some (43, true) }) (v := ?_) rfl (by kernel_rfl) (by kernel_rfl) (by kernel_rfl) (fun _ _ _ h => h) (Or.inl ⟨by rfl, ?_⟩) (by assumption) ?_
    rotate_left 1
    · (intro W hSW; (try dsimp only at hSW); first | (go_simp; done) | (go_simp; with_reducible rfl))
    try simp only [Act.put, List.setIfInBounds_toArray, List.set_cons_zero, List.set_cons_succ]
    refine wpAnyH_take (i := 48) (oi := { dst := some 135, op := Op.move (Operand.tmp 24), type := 3, pos := "law.go:111", after := #[{ on := 43, ground := Ground.guard }], guard := some (43, true) }) (v := ?_) rfl (by kernel_rfl) (by kernel_rfl) (by kernel_rfl) (fun _ _ _ h => h) (Or.inl ⟨by rfl, ?_⟩) (by assumption) ?_
    rotate_left 1
    · (intro W hSW; (try dsimp only at hSW); first | (go_simp; done) | (go_simp; with_reducible rfl))
    try simp only [Act.put, List.setIfInBounds_toArray, List.set_cons_zero, List.set_cons_succ]
    refine wpAnyH_take (i := 49) (oi := { dst := some 136, op := Op.move (Operand.tmp 4), type := 26, pos := "law.go:111", after := #[{ on := 43, ground := Ground.guard }], guard := some (43, true) }) (v := ?_) rfl (by kernel_rfl) (by kernel_rfl) (by kernel_rfl) (fun _ _ _ h => h) (Or.inl ⟨by rfl, ?_⟩) (by assumption) ?_
    rotate_left 1
    · (intro W hSW; (try dsimp only at hSW); first | (go_simp; done) | (go_simp; with_reducible rfl))
    try simp only [Act.put, List.setIfInBounds_toArray, List.set_cons_zero, List.set_cons_succ]
    refine wpAnyH_take (i := 50) (oi := { dst := some 137, op := Op.call { callee := Callee.builtin Builtin.len, args := #[Operand.tmp 136], argTypes := #[26] }, type := 3, pos := "law.go:111", after := #[{ on := 49, ground := Ground.data }, { on := 43, ground := Ground.guard }], guard := some (43, true) }) (v := ?_) rfl (by kernel_rfl) (by kernel_rfl) (by kernel_rfl) (fun _ _ _ h => h) (Or.inl ⟨by rfl, ?_⟩) (by assumption) ?_
    rotate_left 1
    · (intro W hSW; (try dsimp only at hSW); first | (go_simp; done) | (go_simp; with_reducible rfl))
    try simp only [Act.put, List.setIfInBounds_toArray, List.set_cons_zero, List.set_cons_succ]
    refine wpAnyH_take (i := 51) (oi := { dst := some 138, op := Op.binOp BinOp.leq 3 (Operand.tmp 135) (Operand.tmp 137) 3, type := 4, pos := "law.go:111", after := #[{ on := 48, ground := Ground.data }, { on := 50, ground := Ground.data }, { on := 43, ground := Ground.guard }], guard := some (43, true) }) (v := ?_) rfl (by kernel_rfl) (by kernel_rfl) (by kernel_rfl) (fun _ _ _ h => h) (Or.inl ⟨by rfl, ?_⟩) (by assumption) ?_
    rotate_left 1
    · (intro W hSW; (try dsimp only at hSW); first | (go_simp; done) | (go_simp; with_reducible rfl))
    try simp only [Act.put, List.setIfInBounds_toArray, List.set_cons_zero, List.set_cons_succ]
    refine wpAnyH_ready (rs := [47]) (by kernel_rfl) (by simp) ?_
    refine (AllReadyH.cons (o := { dst := some 134, op := Op.call { callee := Callee.value (Operand.func 23), args := #[Operand.tmp 131, Operand.tmp 132, Operand.tmp 133], argTypes := #[25, 26, 3] }, type := 4, pos := "law.go:111", after := #[{ on := 44, ground := Ground.data }, { on := 45, ground := Ground.data }, { on := 46, ground := Ground.data }, { on := 43, ground := Ground.chain }, { on := 43, ground := Ground.guard }], guard := some (43, true) }) rfl (fun K hK => ?_) AllReadyH.nil)
    rw [if_pos (by rfl)]
    go_simp
    go_at_call 23
    refine (eval_at2 HNV.out r4 HIN.out (by have := HL.out; have := HK.out; omega) (by rw [HNV.out]; omega) (good_bounds G4.out (by have := HL.out; have := HK.out; omega)) HR.out.2.2.2 (Hg.out.grown hgr5).2.2 (HBV.out.grown hgr5)).mono ?_
    rintro e wc6 ⟨rfl, gc6⟩
    have hgr6 := World.grownBy.trans hgr5 gc6
    go_wp2_with fail
    refine hK.out _ _ (HS.out _ hgr6) (fun hHeld => ?_)
    clear hK K
    try simp only [Act.put, List.setIfInBounds_toArray, List.set_cons_zero, List.set_cons_succ]
    refine wpAnyH_take (i := 52) (oi := { dst := some 139, op := Op.move (Operand.tmp 138), type := 4, pos := "law.go:111", after := #[{ on := 51, ground := Ground.data }, { on := 47, ground := Ground.chain }, { on := 43, ground := Ground.guard }], guard := some (43, true) }) (v := ?_) rfl (by kernel_rfl) (by kernel_rfl) (by kernel_rfl) (fun _ _ _ h => h) (Or.inl ⟨by rfl, ?_⟩) (by assumption) ?_
    rotate_left 1
    · (intro W hSW; (try dsimp only at hSW); first | (go_simp; done) | (go_simp; with_reducible rfl))
    try simp only [Act.put, List.setIfInBounds_toArray, List.set_cons_zero, List.set_cons_succ]
    refine wpAnyH_take (i := 53) (oi := { dst := some 140, op := Op.move (Operand.tmp 4), type := 26, pos := "law.go:111", after := #[{ on := 52, ground := Ground.guard }], guard := some (52, true) }) (v := ?_) rfl (by kernel_rfl) (by kernel_rfl) (by kernel_rfl) (fun _ _ _ h => h) (Or.inl ⟨by rfl, ?_⟩) (by assumption) ?_
    rotate_left 1
    · (intro W hSW; (try dsimp only at hSW); first | (go_simp; done) | (go_simp; with_reducible rfl))
    try simp only [Act.put, List.setIfInBounds_toArray, List.set_cons_zero, List.set_cons_succ]
    refine wpAnyH_take (i := 54) (oi := { dst := some 141, op := Op.move (Operand.tmp 24), type := 3, pos := "law.go:111", after := #[{ on := 52, ground := Ground.guard }], guard := some (52, true) }) (v := ?_) rfl (by kernel_rfl) (by kernel_rfl) (by kernel_rfl) (fun _ _ _ h => h) (Or.inl ⟨by rfl, ?_⟩) (by assumption) ?_
    rotate_left 1
    · (intro W hSW; (try dsimp only at hSW); first | (go_simp; done) | (go_simp; with_reducible rfl))
    try simp only [Act.put, List.setIfInBounds_toArray, List.set_cons_zero, List.set_cons_succ]
    refine wpAnyH_take (i := 55) (oi := { dst := some 142, op := Op.binOp BinOp.sub 3 (Operand.tmp 141) (Operand.const (Value.int IntKind.i64 1)) 3, type := 3, pos := "law.go:111", after := #[{ on := 54, ground := Ground.data }, { on := 52, ground := Ground.guard }], guard := some (52, true) }) (v := ?_) rfl (by kernel_rfl) (by kernel_rfl) (by kernel_rfl) (fun _ _ _ h => h) (Or.inl ⟨by rfl, ?_⟩) (by assumption) ?_
    rotate_left 1
    · (intro W hSW; (try dsimp only at hSW); first | (go_simp; done) | (go_simp; with_reducible rfl))
    try simp only [Act.put, List.setIfInBounds_toArray, List.set_cons_zero, List.set_cons_succ]
    refine wpAnyH_take (i := 56) (oi := { dst := some 143, op := Op.indexAddr 26 (Operand.tmp 140) (Operand.tmp 142), type := 0, pos := "law.go:111", after := #[{ on := 53, ground := Ground.data }, { on := 55, ground := Ground.data }, { on := 52, ground := Ground.guard }], guard := some (52, true) }) (v := ?_) rfl (by kernel_rfl) (by kernel_rfl) (by kernel_rfl) (fun _ _ _ h => h) (Or.inl ⟨by rfl, ?_⟩) (by assumption) ?_
    rotate_left 1
    · (intro W hSW; (try dsimp only at hSW); first | (go_simp; done) | (go_simp; with_reducible rfl))
    try simp only [Act.put, List.setIfInBounds_toArray, List.set_cons_zero, List.set_cons_succ]
    refine wpAnyH_take (i := 57) (oi := { dst := some 144, op := Op.load 4 (Operand.tmp 143), type := 4, pos := "law.go:111", after := #[{ on := 56, ground := Ground.data }, { on := 52, ground := Ground.guard }], guard := some (52, true) }) (v := ?_) rfl (by kernel_rfl) (by kernel_rfl) (by kernel_rfl) (fun _ _ _ h => h) (Or.inl ⟨by rfl, ?_⟩) (by assumption) ?_
    rotate_left 1
    · (intro W hSW; (try dsimp only at hSW); first | (go_simp; done) | (go_simp; with_reducible rfl))
    try simp only [Act.put, List.setIfInBounds_toArray, List.set_cons_zero, List.set_cons_succ]
    refine wpAnyH_take (i := 58) (oi := { dst := some 145, op := Op.pick (Operand.tmp 139) (Operand.tmp 144) (Operand.const (Value.bool false)), type := 4, pos := "law.go:111", after := #[{ on := 52, ground := Ground.data }, { on := 57, ground := Ground.data }, { on := 43, ground := Ground.guard }], guard := some (43, true) }) (v := ?_) rfl (by kernel_rfl) (by kernel_rfl) (by kernel_rfl) (fun _ _ _ h => h) (Or.inl ⟨by rfl, ?_⟩) (by assumption) ?_
    rotate_left 1
    · (intro W hSW; (try dsimp only at hSW); first | (go_simp; done) | (go_simp; with_reducible rfl))
    try simp only [Act.put, List.setIfInBounds_toArray, List.set_cons_zero, List.set_cons_succ]
    refine wpAnyH_take (i := 59) (oi := { dst := some 146, op := Op.binOp BinOp.eql 4 (Operand.tmp 134) (Operand.tmp 145) 4, type := 4, pos := "law.go:111", after := #[{ on := 47, ground := Ground.data }, { on := 58, ground := Ground.data }, { on := 43, ground := Ground.guard }], guard := some (43, true) }) (v := ?_) rfl (by kernel_rfl) (by kernel_rfl) (by kernel_rfl) (fun _ _ _ h => h) (Or.inl ⟨by rfl, ?_⟩) (by assumption) ?_
    rotate_left 1
    · (intro W hSW; (try dsimp only at hSW); first | (go_simp; done) | (go_simp; with_reducible rfl))
    try simp only [Act.put, List.setIfInBounds_toArray, List.set_cons_zero, List.set_cons_succ]
    refine wpAnyH_take (i := 60) (oi := { dst := some 147, op := Op.pick (Operand.tmp 130) (Operand.tmp 146) (Operand.const (Value.bool false)), type := 4, pos := "law.go:111", after := #[{ on := 43, ground := Ground.data }, { on := 59, ground := Ground.data }], guard := none }) (v := ?_) rfl (by kernel_rfl) (by kernel_rfl) (by kernel_rfl) (fun _ _ _ h => h) (Or.inl ⟨by rfl, ?_⟩) (by assumption) ?_
    rotate_left 1
    · (intro W hSW; (try dsimp only at hSW); first | (go_simp; done) | (go_simp; with_reducible rfl))
    try simp only [Act.put, List.setIfInBounds_toArray, List.set_cons_zero, List.set_cons_succ]
    refine wpAnyH_take (i := 61) (oi := { dst := some 148, op := Op.move (Operand.tmp 147), type := 4, pos := "law.go:111", after := #[{ on := 60, ground := Ground.data }, { on := 52, ground := Ground.chain }], guard := none }) (v := ?_) rfl (by kernel_rfl) (by kernel_rfl) (by kernel_rfl) (fun _ _ _ h => h) (Or.inl ⟨by rfl, ?_⟩) (by assumption) ?_
    rotate_left 1
    · (intro W hSW; (try dsimp only at hSW); first | (go_simp; done) | (go_simp; with_reducible rfl))
    try simp only [Act.put, List.setIfInBounds_toArray, List.set_cons_zero, List.set_cons_succ]
    refine wpAnyH_take (i := 62) (oi := { dst := some 149, op := Op.load 25 (Operand.tmp 12), type := 25, pos := "law.go:111", after := #[{ on := 61, ground := Ground.guard }], guard := some (61, true) }) (v := ?_) rfl (by kernel_rfl) (by kernel_rfl) (by kernel_rfl) (fun _ _ _ h => h) (Or.inl ⟨by rfl, ?_⟩) (by assumption) ?_
    rotate_left 1
    · (intro W hSW; (try dsimp only at hSW); first | (go_simp; done) | (go_simp; with_reducible rfl))
    try simp only [Act.put, List.setIfInBounds_toArray, List.set_cons_zero, List.set_cons_succ]
    refine wpAnyH_take (i := 63) (oi := { dst := some 150, op := Op.move (Operand.tmp 4), type := 26, pos := "law.go:111", after := #[{ on := 61, ground := Ground.guard }], guard := some (61, true) }) (v := ?_) rfl (by kernel_rfl) (by kernel_rfl) (by kernel_rfl) (fun _ _ _ h => h) (Or.inl ⟨by rfl, ?_⟩) (by assumption) ?_
    rotate_left 1
    · (intro W hSW; (try dsimp only at hSW); first | (go_simp; done) | (go_simp; with_reducible rfl))
    try simp only [Act.put, List.setIfInBounds_toArray, List.set_cons_zero, List.set_cons_succ]
    refine wpAnyH_ready (rs := [64]) (by kernel_rfl) (by simp) ?_
    refine (AllReadyH.cons (o := { dst := some 151, op := Op.call { callee := Callee.value (Operand.func 23), args := #[Operand.tmp 149, Operand.tmp 150, Operand.const (Value.int IntKind.i64 0)], argTypes := #[25, 26, 3] }, type := 4, pos := "law.go:111", after := #[{ on := 62, ground := Ground.data }, { on := 63, ground := Ground.data }, { on := 61, ground := Ground.chain }, { on := 61, ground := Ground.guard }], guard := some (61, true) }) rfl (fun K hK => ?_) AllReadyH.nil)
    rw [if_pos (by rfl)]
    go_simp
    go_at_call 23
    refine (eval_at2 HNV.out 0 HTR.out (by have := HL.out; have := HK.out; omega) (by rw [HNV.out]; omega) (good_bounds HGD.out (by have := HL.out; have := HK.out; omega)) (by omega) (Hc.out.grown hgr6).2.2 (HBV.out.grown hgr6)).mono ?_
    rintro e wc7 ⟨rfl, gc7⟩
    have hgr7 := World.grownBy.trans hgr6 gc7
    go_wp2_with fail
    refine hK.out _ _ (HS.out _ hgr7) (fun hHeld => ?_)
    clear hK K
    try simp only [Act.put, List.setIfInBounds_toArray, List.set_cons_zero, List.set_cons_succ]
    refine wpAnyH_take (i := 65) (oi := { dst := some 152, op := Op.pick (Operand.tmp 148) (Operand.tmp 151) (Operand.const (Value.bool false)), type := 4, pos := "law.go:111", after := #[{ on := 61, ground := Ground.data }, { on := 64, ground := Ground.data }], guard := none }) (v := ?_) rfl (by kernel_rfl) (by kernel_rfl) (by kernel_rfl) (fun _ _ _ h => h) (Or.inl ⟨by rfl, ?_⟩) (by assumption) ?_
    rotate_left 1
    · (intro W hSW; (try dsimp only at hSW); first | (go_simp; done) | (go_simp; with_reducible rfl))
    try simp only [Act.put, List.setIfInBounds_toArray, List.set_cons_zero, List.set_cons_succ]
    refine wpAnyH_take (i := 66) (oi := { dst := some 10, op := Op.assign (Operand.tmp 152), type := 4, pos := "law.go:111", after := ([{ on := 65, ground := Ground.data }, { on := 64, ground := Ground.chain }, { on := 0, ground := Ground.phase }, { on := 1, ground := Ground.phase }, { on := 2, ground := Ground.phase }, { on := 3, ground := Ground.phase }, { on := 4, ground := Ground.phase }, { on := 5, ground := Ground.phase }, { on := 6, ground := Ground.phase }, { on := 7, ground := Ground.phase }, { on := 8, ground := Ground.phase }, { on := 9, ground := Ground.phase }, { on := 10, ground := Ground.phase }, { on := 11, ground := Ground.phase }, { on := 12, ground := Ground.phase }, { on := 13, ground := Ground.phase }, { on := 14, ground := Ground.phase }, { on := 15, ground := Ground.phase }, { on := 16, ground := Ground.phase }, { on := 17, ground := Ground.phase }, { on := 18, ground := Ground.phase }, { on := 19, ground := Ground.phase }, { on := 20, ground := Ground.phase }, { on := 21, ground := Ground.phase }, { on := 22, ground := Ground.phase }, { on := 23, ground := Ground.phase }, { on := 24, ground := Ground.phase }, { on := 25, ground := Ground.phase }, { on := 26, ground := Ground.phase }, { on := 27, ground := Ground.phase }, { on := 28, ground := Ground.phase }, { on := 29, ground := Ground.phase }, { on := 30, ground := Ground.phase }, { on := 31, ground := Ground.phase }].append [{ on := 32, ground := Ground.phase }, { on := 33, ground := Ground.phase }, { on := 34, ground := Ground.phase }, { on := 35, ground := Ground.phase }, { on := 36, ground := Ground.phase }, { on := 37, ground := Ground.phase }, { on := 38, ground := Ground.phase }, { on := 39, ground := Ground.phase }, { on := 40, ground := Ground.phase }, { on := 41, ground := Ground.phase }, { on := 42, ground := Ground.phase }, { on := 43, ground := Ground.phase }, { on := 44, ground := Ground.phase }, { on := 45, ground := Ground.phase }, { on := 46, ground := Ground.phase }, { on := 47, ground := Ground.phase }, { on := 48, ground := Ground.phase }, { on := 49, ground := Ground.phase }, { on := 50, ground := Ground.phase }, { on := 51, ground := Ground.phase }, { on := 52, ground := Ground.phase }, { on := 53, ground := Ground.phase }, { on := 54, ground := Ground.phase }, { on := 55, ground := Ground.phase }, { on := 56, ground := Ground.phase }, { on := 57, ground := Ground.phase }, { on := 58, ground := Ground.phase }, { on := 59, ground := Ground.phase }, { on := 60, ground := Ground.phase }, { on := 61, ground := Ground.phase }, { on := 62, ground := Ground.phase }, { on := 63, ground := Ground.phase }, { on := 64, ground := Ground.phase }, { on := 65, ground := Ground.phase }]).toArray, guard := none }) (v := ?_) rfl (by kernel_rfl) (by kernel_rfl) (by kernel_rfl) (fun _ _ _ h => h) (Or.inl ⟨by rfl, ?_⟩) (by assumption) ?_
    rotate_left 1
    · (intro W hSW; (try dsimp only at hSW); first | (go_simp; done) | (go_simp; with_reducible rfl))
    try simp only [Act.put, List.setIfInBounds_toArray, List.set_cons_zero, List.set_cons_succ]
    refine wpAnyH_done (by kernel_rfl) ?_ _
    have hEND := hgr7
    clear hHeld
    go_wp2_with fail
    go_ret
    exact ⟨rfl, World.grownBy.trans HG.out hEND⟩
end Go.Proofs.Ytllljcbdinckgaa
