/- The law: all functions answer as the reference does. -/
import Derived.Test.YtllljcbdinckgaaL4
import Derived.Test.YtllljcbdinckgaaE3
namespace Go.Proofs.Ytllljcbdinckgaa
open Go.RowKit

/-- Raw gates in a box. -/
def CRB (w : World) (b : Nat) (a : Option Addr) (c n : Nat) (gs : List Gt) : Prop := w.cell? ⟨b, 0, none⟩ = some (.slice a n c) ∧ GatesR w a c gs
theorem CRB.grown {w w' : World} {b : Nat} {a : Option Addr} {c n : Nat} {gs : List Gt} (h : CRB w b a c n gs) (hg : w.grownBy w' none) : CRB w' b a c n gs := ⟨hg.cell h.1 (by simp), h.2.grown hg⟩
theorem valid_len {gs : List Gt} {a : Option Addr} {c n : Nat} {w : World} (hn : gs.length = n) (h : GatesR w a c gs) (hl : gs.length ≤ 2000) (hwf : ∀ g ∈ gs, WfG g) :
    Calls Try.prog 21 #[.agg #[.slice a n c]] w fun e w' => ∃ b, e = .returned (.bool b) ∧ (b = true ↔ Good gs) ∧ w.grownBy w' none := by
  subst hn
  exact valid_calls gs a c w h hl hwf
theorem rvalid_len {gs : List Gt} {a : Option Addr} {c n : Nat} {w : World} (hn : gs.length = n) (h : GatesR w a c gs) (hl : gs.length ≤ 2000) (hwf : ∀ g ∈ gs, WfG g) :
    Calls Try.prog 22 #[.agg #[.slice a n c]] w fun e w' => ∃ b, e = .returned (.bool b) ∧ (b = true ↔ Good gs) ∧ w.grownBy w' none := by
  subst hn
  exact rvalid_calls gs a c w h hl hwf
theorem eval_at3 {gs : List Gt} {vals : List Bool} {a va : Option Addr} {c vc nv : Nat} {w : World} {q : Bool} (hn : vals.length = nv) (x : Int) (e : evalC gs vals x = q) (hl : gs.length ≤ 1000) (hl2 : vals.length ≤ 1000) (hb : ∀ g ∈ gs, g.2.1 ≤ 9223372036854775807 ∧ g.2.2 ≤ 9223372036854775807) (hr : x ≤ 9223372036854775807) (h : GatesW w a c gs) (hv : BoolsW w va vc vals) :
    Calls Try.prog 23 #[.agg #[.slice a gs.length c], .slice va nv vc, .int .i64 x] w fun x w' => x = .returned (.bool q) ∧ w.grownBy w' none := by
  subst hn
  exact eval_at x e hl hl2 hb hr h hv
theorem reval_at3 {gs : List Gt} {vals : List Bool} {a va : Option Addr} {c vc nv : Nat} {w : World} {q : Bool} (hn : vals.length = nv) (x : Int) (e : evalC gs vals x = q) (hG : Good gs) (hl : gs.length ≤ 1000) (hl2 : vals.length ≤ 1000) (hr : x ≤ 9223372036854775807) (h : GatesW w a c gs) (hv : BoolsW w va vc vals) :
    Calls Try.prog 24 #[.agg #[.slice a gs.length c], .slice va nv vc, .int .i64 x] w fun x w' => x = .returned (.bool q) ∧ w.grownBy w' none := by
  subst hn
  have := reval_calls gs vals x a c va vc w h hG hv hl hl2 hr
  rw [e] at this
  exact this
set_option maxRecDepth 100000 in
set_option maxHeartbeats 4000000 in
theorem matches_calls (l : List Stp) (sa : Option Addr) (sc : Nat) (raw : List Gt) (ga : Option Addr) (gc : Nat) (vi ai bi : Int) (vals : List Bool) (va : Option Addr) (vc : Nat) (w : World) (h : StpsW w sa sc l) (hs : ∀ s ∈ l, StpOk s) (_hm : (l.length : Int) ≤ 9223372036854775807) (hr : GatesR w ga gc raw) (hwf : ∀ g ∈ raw, WfG g) (_hm1 : (raw.length : Int) ≤ 9223372036854775807) (_hvi : -9223372036854775808 ≤ vi ∧ vi ≤ 9223372036854775807) (hai : -9223372036854775808 ≤ ai ∧ ai ≤ 9223372036854775807) (hbi : -9223372036854775808 ≤ bi ∧ bi ≤ 9223372036854775807) (hv : BoolsW w va vc vals) (_hm2 : (vals.length : Int) ≤ 9223372036854775807) :
    Calls Try.prog 3 #[.slice sa l.length sc, .agg #[.slice ga raw.length gc], .int .i64 vi, .int .i64 ai, .int .i64 bi, .slice va vals.length vc] w fun e w' => e = .returned (.bool true) ∧ w.grownBy w' none := by
  obtain ⟨N, hN⟩ : ∃ N, l.length = N := ⟨_, rfl⟩
  have HS := Lib.hid (And.intro h hs)
  have HN := Lib.hid hN
  obtain ⟨nv, hnv⟩ : ∃ n, vals.length = n := ⟨_, rfl⟩
  obtain ⟨ng, hng⟩ : ∃ n, raw.length = n := ⟨_, rfl⟩
  have HNV := Lib.hid hnv
  have HNG := Lib.hid hng
  have HWF := Lib.hid hwf
  have HAB := Lib.hid (And.intro hai.2 hbi.2)
  have gg := World.grownBy_alloc w (.cells #[.slice ga ng gc] 25) none
  have e1 := one_cell w (.slice ga ng gc) 25
  obtain ⟨W1, hW1⟩ : ∃ z, World.alloc w (.cells #[.slice ga ng gc] 25) = z := ⟨_, rfl⟩
  rw [hW1] at gg e1
  have HBV := Lib.hid (hv.grown gg)
  have HRW := Lib.hid (show CRB W1 w.heap.size ga gc ng raw from ⟨e1.2.1, hr.grown gg⟩)
  have HW := Lib.hid gg
  rw [hN, hnv, hng]
  clear h hs hN hnv hng hv hr hwf gg hai hbi _hvi _hm _hm1 _hm2 e1
  by_cases h60 : 60 < N
  · have f1 : decide ((60 : Int) < (N : Int)) = true := decide_eq_true (by omega)
    have f2 : decide (60 < N) = true := decide_eq_true h60
    go_enter Try.func3, Try.ntmps3
    go_wp2_with fail
    go_at_call 10
    refine (head_calls _).mono ?_
    rintro e V1 ⟨rfl, g⟩
    have qr := (HRW.out.grown g).1
    go_wp2_with fail
    go_ret
    exact ⟨rfl, World.grownBy.trans HW.out g⟩
  have f1 : decide ((60 : Int) < (N : Int)) = false := decide_eq_false (by omega)
  have f2 : decide (60 < N) = false := decide_eq_false h60
  by_cases h62 : 60 < ng
  · have f3 : decide ((60 : Int) < (ng : Int)) = true := decide_eq_true (by omega)
    have f4 : decide (60 < ng) = true := decide_eq_true h62
    go_enter Try.func3, Try.ntmps3
    go_wp2_with fail
    go_at_call 10
    refine (head_calls _).mono ?_
    rintro e V1 ⟨rfl, g⟩
    have qr := (HRW.out.grown g).1
    go_wp2_with fail
    go_ret
    exact ⟨rfl, World.grownBy.trans HW.out g⟩
  have f5 : decide ((60 : Int) < (ng : Int)) = false := decide_eq_false (by omega)
  have f6 : decide (60 < ng) = false := decide_eq_false h62
  by_cases h61 : 60 < nv
  · have f3 : decide ((60 : Int) < (nv : Int)) = true := decide_eq_true (by omega)
    have f4 : decide (60 < nv) = true := decide_eq_true h61
    go_enter Try.func3, Try.ntmps3
    go_wp2_with fail
    go_at_call 10
    refine (head_calls _).mono ?_
    rintro e V1 ⟨rfl, g⟩
    have qr := (HRW.out.grown g).1
    go_wp2_with fail
    go_ret
    exact ⟨rfl, World.grownBy.trans HW.out g⟩
  have f3 : decide ((60 : Int) < (nv : Int)) = false := decide_eq_false (by omega)
  have f4 : decide (60 < nv) = false := decide_eq_false h61
  obtain ⟨p, hp⟩ : ∃ p, buildC l = p := ⟨_, rfl⟩
  obtain ⟨g0, refs⟩ := p
  have HB := Lib.hid (show Built (g0, refs) N by have := built l (by rw [HN.out]; omega); rw [hp, HN.out] at this; exact this)
  have HP := Lib.hid hp
  clear hp
  have HG := HW
  have HGD := Lib.hid (show Good g0 from HB.out.good)
  have HL := Lib.hid (show g0.length ≤ 181 from by have := HB.out.len; simp only at this; omega)
  have HRL := Lib.hid (show refs.length = N from HB.out.refs)
  have HRO := Lib.hid (show ∀ r ∈ refs, Ok g0 r from HB.out.ok)
  go_enter Try.func3, Try.ntmps3
  go_wp2_with fail
  go_at_call 10
  refine (head_calls _).mono ?_
  rintro e V1 ⟨rfl, g⟩
  replace HBV := Lib.hid (HBV.out.grown g)
  replace HRW := Lib.hid (HRW.out.grown g)
  replace HG := Lib.hid (World.grownBy.trans HG.out g)
  clear g
  have qr := HRW.out.1
  go_wp2_with fail
  clear qr
  go_at_call 11
  have HBC := Lib.hid (rbuild_calls l sa sc V1 HP.out (HS.out.1.grown HG.out) (by rw [HN.out]; omega) HS.out.2)
  rw [HN.out] at HBC
  refine HBC.out.mono ?_
  rintro e V2 ⟨a2, c2, ra, rc, rfl, hr, hri, g⟩
  replace HBV := Lib.hid (HBV.out.grown g)
  replace HRW := Lib.hid (HRW.out.grown g)
  replace HG := Lib.hid (World.grownBy.trans HG.out g)
  clear g
  have HRI := Lib.hid hri
  clear hri HBC
  go_upto_region 5 with fail
  have hb := CB.new hr
  have g := World.grownBy_alloc V2 (.cells #[.slice a2 g0.length c2] 25) none
  obtain ⟨V3, hV3⟩ : ∃ z, World.alloc V2 (.cells #[.slice a2 g0.length c2] 25) = z := ⟨_, rfl⟩
  rw [hV3] at g hb ⊢
  clear hV3 hr
  obtain ⟨bc, hbb⟩ : ∃ b, V2.heap.size = b := ⟨_, rfl⟩
  rw [hbb] at hb ⊢
  have Lc := Lib.hid (Nat.le_of_eq hbb)
  have Zc := Lib.hid (Nat.le_trans (World.grownBy.size HG.out) (Nat.le_of_eq hbb))
  clear hbb
  replace HBV := Lib.hid (HBV.out.grown g)
  replace HRW := Lib.hid (HRW.out.grown g)
  replace HRI := Lib.hid (HRI.out.grown g)
  replace HG := Lib.hid (World.grownBy.trans HG.out g)
  clear g
  have Hc := Lib.hid hb
  clear hb
  clear f1 f2 f3 f4 f5 f6
  obtain ⟨g1, r1, e1⟩ : ∃ g r, inputC g0 vi = (g, r) := ⟨_, _, rfl⟩
  obtain ⟨g2, r2, e2⟩ : ∃ g r, andC g0 ai bi = (g, r) := ⟨_, _, rfl⟩
  obtain ⟨g3, r3, e3⟩ : ∃ g r, orC g0 ai bi = (g, r) := ⟨_, _, rfl⟩
  obtain ⟨g4, r4, e4⟩ : ∃ g r, iffC g0 ai bi = (g, r) := ⟨_, _, rfl⟩
  have K1 := input_len (gs := g0) vi
  have K2 := and_len (gs := g0) ai bi
  have K3 := or_len (gs := g0) ai bi
  have K4 := iff_len (gs := g0) ai bi
  rw [e1] at K1
  rw [e2] at K2
  rw [e3] at K3
  rw [e4] at K4
  have HE := Lib.hid (And.intro e1 (And.intro e2 (And.intro e3 e4)))
  have HK := Lib.hid (show g1.length ≤ g0.length + 1 ∧ g2.length ≤ g0.length + 1 ∧ g3.length ≤ g0.length + 1 ∧ g4.length ≤ g0.length + 3 from ⟨K1, K2, K3, K4⟩)
  obtain ⟨pe, hpe⟩ : ∃ p, evalC g0 vals ai = p := ⟨_, rfl⟩
  have HPE := Lib.hid hpe
  clear e1 e2 e3 e4 K1 K2 K3 K4 hpe
  have qc := Hc.out.1
  have fc := Hc.out.2.1
  go_wp2_with fail
  clear qc fc
  go_at_call 12
  refine (input_at vi HE.out.1 HGD.out (by have := HL.out; omega) Hc.out.2.2).mono ?_
  rintro e V4 ⟨a4, c4, rfl, hr, g⟩
  replace Hc := Lib.hid (Hc.out.grown g)
  replace HBV := Lib.hid (HBV.out.grown g)
  replace HRW := Lib.hid (HRW.out.grown g)
  replace HRI := Lib.hid (HRI.out.grown g)
  replace HG := Lib.hid (World.grownBy.trans HG.out g)
  clear g
  have qc := Hc.out.1
  have fc := Hc.out.2.1
  go_upto_region 6 with fail
  clear qc fc
  have hb := CB.new hr
  have g := World.grownBy_alloc V4 (.cells #[.slice a4 g1.length c4] 25) none
  obtain ⟨V5, hV5⟩ : ∃ z, World.alloc V4 (.cells #[.slice a4 g1.length c4] 25) = z := ⟨_, rfl⟩
  rw [hV5] at g hb ⊢
  clear hV5 hr
  obtain ⟨bd, hbb⟩ : ∃ b, V4.heap.size = b := ⟨_, rfl⟩
  rw [hbb] at hb ⊢
  have Ld := Lib.hid (Nat.le_of_eq hbb)
  have Zd := Lib.hid (Nat.le_trans (World.grownBy.size HG.out) (Nat.le_of_eq hbb))
  clear hbb
  replace Hc := Lib.hid (Hc.out.grown g)
  replace HBV := Lib.hid (HBV.out.grown g)
  replace HRW := Lib.hid (HRW.out.grown g)
  replace HRI := Lib.hid (HRI.out.grown g)
  replace HG := Lib.hid (World.grownBy.trans HG.out g)
  clear g
  have Hd := Lib.hid hb
  clear hb
  have qc := Hc.out.1
  have fc := Hc.out.2.1
  have qd := Hd.out.1
  have fd := Hd.out.2.1
  go_wp2_with fail
  clear qc fc qd fd
  go_at_call 13
  refine (rinput_at vi HE.out.1 HGD.out (by have := HL.out; omega) Hc.out.2.2).mono ?_
  rintro e V6 ⟨a6, c6, rfl, hr, g⟩
  replace Hc := Lib.hid (Hc.out.grown g)
  replace Hd := Lib.hid (Hd.out.grown g)
  replace HBV := Lib.hid (HBV.out.grown g)
  replace HRW := Lib.hid (HRW.out.grown g)
  replace HRI := Lib.hid (HRI.out.grown g)
  replace HG := Lib.hid (World.grownBy.trans HG.out g)
  clear g
  have qc := Hc.out.1
  have fc := Hc.out.2.1
  have qd := Hd.out.1
  have fd := Hd.out.2.1
  go_upto_region 7 with fail
  clear qc fc qd fd
  have hb := CB.new hr
  have g := World.grownBy_alloc V6 (.cells #[.slice a6 g1.length c6] 25) none
  obtain ⟨V7, hV7⟩ : ∃ z, World.alloc V6 (.cells #[.slice a6 g1.length c6] 25) = z := ⟨_, rfl⟩
  rw [hV7] at g hb ⊢
  clear hV7 hr
  obtain ⟨bd1, hbb⟩ : ∃ b, V6.heap.size = b := ⟨_, rfl⟩
  rw [hbb] at hb ⊢
  have Ld1 := Lib.hid (Nat.le_of_eq hbb)
  have Zd1 := Lib.hid (Nat.le_trans (World.grownBy.size HG.out) (Nat.le_of_eq hbb))
  clear hbb
  replace Hc := Lib.hid (Hc.out.grown g)
  replace Hd := Lib.hid (Hd.out.grown g)
  replace HBV := Lib.hid (HBV.out.grown g)
  replace HRW := Lib.hid (HRW.out.grown g)
  replace HRI := Lib.hid (HRI.out.grown g)
  replace HG := Lib.hid (World.grownBy.trans HG.out g)
  clear g
  have Hd1 := Lib.hid hb
  clear hb
  have qc := Hc.out.1
  have fc := Hc.out.2.1
  have qd := Hd.out.1
  have fd := Hd.out.2.1
  have qd1 := Hd1.out.1
  have fd1 := Hd1.out.2.1
  go_wp2_with fail
  clear qc fc qd fd qd1 fd1
  go_at_call 14
  refine (and_at ai bi HE.out.2.1 HGD.out (by have := HL.out; omega) HAB.out.1 HAB.out.2 Hc.out.2.2).mono ?_
  rintro e V8 ⟨a8, c8, rfl, hr, g⟩
  replace Hc := Lib.hid (Hc.out.grown g)
  replace Hd := Lib.hid (Hd.out.grown g)
  replace Hd1 := Lib.hid (Hd1.out.grown g)
  replace HBV := Lib.hid (HBV.out.grown g)
  replace HRW := Lib.hid (HRW.out.grown g)
  replace HRI := Lib.hid (HRI.out.grown g)
  replace HG := Lib.hid (World.grownBy.trans HG.out g)
  clear g
  have qc := Hc.out.1
  have fc := Hc.out.2.1
  have qd := Hd.out.1
  have fd := Hd.out.2.1
  have qd1 := Hd1.out.1
  have fd1 := Hd1.out.2.1
  go_upto_region 8 with fail
  clear qc fc qd fd qd1 fd1
  have hb := CB.new hr
  have g := World.grownBy_alloc V8 (.cells #[.slice a8 g2.length c8] 25) none
  obtain ⟨V9, hV9⟩ : ∃ z, World.alloc V8 (.cells #[.slice a8 g2.length c8] 25) = z := ⟨_, rfl⟩
  rw [hV9] at g hb ⊢
  clear hV9 hr
  obtain ⟨be, hbb⟩ : ∃ b, V8.heap.size = b := ⟨_, rfl⟩
  rw [hbb] at hb ⊢
  have Le := Lib.hid (Nat.le_of_eq hbb)
  have Ze := Lib.hid (Nat.le_trans (World.grownBy.size HG.out) (Nat.le_of_eq hbb))
  clear hbb
  replace Hc := Lib.hid (Hc.out.grown g)
  replace Hd := Lib.hid (Hd.out.grown g)
  replace Hd1 := Lib.hid (Hd1.out.grown g)
  replace HBV := Lib.hid (HBV.out.grown g)
  replace HRW := Lib.hid (HRW.out.grown g)
  replace HRI := Lib.hid (HRI.out.grown g)
  replace HG := Lib.hid (World.grownBy.trans HG.out g)
  clear g
  have He := Lib.hid hb
  clear hb
  have qc := Hc.out.1
  have fc := Hc.out.2.1
  have qd := Hd.out.1
  have fd := Hd.out.2.1
  have qd1 := Hd1.out.1
  have fd1 := Hd1.out.2.1
  have qe := He.out.1
  have fe := He.out.2.1
  go_wp2_with fail
  clear qc fc qd fd qd1 fd1 qe fe
  go_at_call 15
  refine (rand_at ai bi HE.out.2.1 HGD.out (by have := HL.out; omega) HAB.out.1 HAB.out.2 Hc.out.2.2).mono ?_
  rintro e V10 ⟨a10, c10, rfl, hr, g⟩
  replace Hc := Lib.hid (Hc.out.grown g)
  replace Hd := Lib.hid (Hd.out.grown g)
  replace Hd1 := Lib.hid (Hd1.out.grown g)
  replace He := Lib.hid (He.out.grown g)
  replace HBV := Lib.hid (HBV.out.grown g)
  replace HRW := Lib.hid (HRW.out.grown g)
  replace HRI := Lib.hid (HRI.out.grown g)
  replace HG := Lib.hid (World.grownBy.trans HG.out g)
  clear g
  have qc := Hc.out.1
  have fc := Hc.out.2.1
  have qd := Hd.out.1
  have fd := Hd.out.2.1
  have qd1 := Hd1.out.1
  have fd1 := Hd1.out.2.1
  have qe := He.out.1
  have fe := He.out.2.1
  go_upto_region 9 with fail
  clear qc fc qd fd qd1 fd1 qe fe
  have hb := CB.new hr
  have g := World.grownBy_alloc V10 (.cells #[.slice a10 g2.length c10] 25) none
  obtain ⟨V11, hV11⟩ : ∃ z, World.alloc V10 (.cells #[.slice a10 g2.length c10] 25) = z := ⟨_, rfl⟩
  rw [hV11] at g hb ⊢
  clear hV11 hr
  obtain ⟨be1, hbb⟩ : ∃ b, V10.heap.size = b := ⟨_, rfl⟩
  rw [hbb] at hb ⊢
  have Le1 := Lib.hid (Nat.le_of_eq hbb)
  have Ze1 := Lib.hid (Nat.le_trans (World.grownBy.size HG.out) (Nat.le_of_eq hbb))
  clear hbb
  replace Hc := Lib.hid (Hc.out.grown g)
  replace Hd := Lib.hid (Hd.out.grown g)
  replace Hd1 := Lib.hid (Hd1.out.grown g)
  replace He := Lib.hid (He.out.grown g)
  replace HBV := Lib.hid (HBV.out.grown g)
  replace HRW := Lib.hid (HRW.out.grown g)
  replace HRI := Lib.hid (HRI.out.grown g)
  replace HG := Lib.hid (World.grownBy.trans HG.out g)
  clear g
  have He1 := Lib.hid hb
  clear hb
  have qc := Hc.out.1
  have fc := Hc.out.2.1
  have qd := Hd.out.1
  have fd := Hd.out.2.1
  have qd1 := Hd1.out.1
  have fd1 := Hd1.out.2.1
  have qe := He.out.1
  have fe := He.out.2.1
  have qe1 := He1.out.1
  have fe1 := He1.out.2.1
  go_wp2_with fail
  clear qc fc qd fd qd1 fd1 qe fe qe1 fe1
  go_at_call 16
  refine (or_at ai bi HE.out.2.2.1 HGD.out (by have := HL.out; omega) HAB.out.1 HAB.out.2 Hc.out.2.2).mono ?_
  rintro e V12 ⟨a12, c12, rfl, hr, g⟩
  replace Hc := Lib.hid (Hc.out.grown g)
  replace Hd := Lib.hid (Hd.out.grown g)
  replace Hd1 := Lib.hid (Hd1.out.grown g)
  replace He := Lib.hid (He.out.grown g)
  replace He1 := Lib.hid (He1.out.grown g)
  replace HBV := Lib.hid (HBV.out.grown g)
  replace HRW := Lib.hid (HRW.out.grown g)
  replace HRI := Lib.hid (HRI.out.grown g)
  replace HG := Lib.hid (World.grownBy.trans HG.out g)
  clear g
  have qc := Hc.out.1
  have fc := Hc.out.2.1
  have qd := Hd.out.1
  have fd := Hd.out.2.1
  have qd1 := Hd1.out.1
  have fd1 := Hd1.out.2.1
  have qe := He.out.1
  have fe := He.out.2.1
  have qe1 := He1.out.1
  have fe1 := He1.out.2.1
  go_upto_region 10 with fail
  clear qc fc qd fd qd1 fd1 qe fe qe1 fe1
  have hb := CB.new hr
  have g := World.grownBy_alloc V12 (.cells #[.slice a12 g3.length c12] 25) none
  obtain ⟨V13, hV13⟩ : ∃ z, World.alloc V12 (.cells #[.slice a12 g3.length c12] 25) = z := ⟨_, rfl⟩
  rw [hV13] at g hb ⊢
  clear hV13 hr
  obtain ⟨bf, hbb⟩ : ∃ b, V12.heap.size = b := ⟨_, rfl⟩
  rw [hbb] at hb ⊢
  have Lf := Lib.hid (Nat.le_of_eq hbb)
  have Zf := Lib.hid (Nat.le_trans (World.grownBy.size HG.out) (Nat.le_of_eq hbb))
  clear hbb
  replace Hc := Lib.hid (Hc.out.grown g)
  replace Hd := Lib.hid (Hd.out.grown g)
  replace Hd1 := Lib.hid (Hd1.out.grown g)
  replace He := Lib.hid (He.out.grown g)
  replace He1 := Lib.hid (He1.out.grown g)
  replace HBV := Lib.hid (HBV.out.grown g)
  replace HRW := Lib.hid (HRW.out.grown g)
  replace HRI := Lib.hid (HRI.out.grown g)
  replace HG := Lib.hid (World.grownBy.trans HG.out g)
  clear g
  have Hf := Lib.hid hb
  clear hb
  have qc := Hc.out.1
  have fc := Hc.out.2.1
  have qd := Hd.out.1
  have fd := Hd.out.2.1
  have qd1 := Hd1.out.1
  have fd1 := Hd1.out.2.1
  have qe := He.out.1
  have fe := He.out.2.1
  have qe1 := He1.out.1
  have fe1 := He1.out.2.1
  have qf := Hf.out.1
  have ff := Hf.out.2.1
  go_wp2_with fail
  clear qc fc qd fd qd1 fd1 qe fe qe1 fe1 qf ff
  go_at_call 17
  refine (ror_at ai bi HE.out.2.2.1 HGD.out (by have := HL.out; omega) HAB.out.1 HAB.out.2 Hc.out.2.2).mono ?_
  rintro e V14 ⟨a14, c14, rfl, hr, g⟩
  replace Hc := Lib.hid (Hc.out.grown g)
  replace Hd := Lib.hid (Hd.out.grown g)
  replace Hd1 := Lib.hid (Hd1.out.grown g)
  replace He := Lib.hid (He.out.grown g)
  replace He1 := Lib.hid (He1.out.grown g)
  replace Hf := Lib.hid (Hf.out.grown g)
  replace HBV := Lib.hid (HBV.out.grown g)
  replace HRW := Lib.hid (HRW.out.grown g)
  replace HRI := Lib.hid (HRI.out.grown g)
  replace HG := Lib.hid (World.grownBy.trans HG.out g)
  clear g
  have qc := Hc.out.1
  have fc := Hc.out.2.1
  have qd := Hd.out.1
  have fd := Hd.out.2.1
  have qd1 := Hd1.out.1
  have fd1 := Hd1.out.2.1
  have qe := He.out.1
  have fe := He.out.2.1
  have qe1 := He1.out.1
  have fe1 := He1.out.2.1
  have qf := Hf.out.1
  have ff := Hf.out.2.1
  go_upto_region 11 with fail
  clear qc fc qd fd qd1 fd1 qe fe qe1 fe1 qf ff
  have hb := CB.new hr
  have g := World.grownBy_alloc V14 (.cells #[.slice a14 g3.length c14] 25) none
  obtain ⟨V15, hV15⟩ : ∃ z, World.alloc V14 (.cells #[.slice a14 g3.length c14] 25) = z := ⟨_, rfl⟩
  rw [hV15] at g hb ⊢
  clear hV15 hr
  obtain ⟨bf1, hbb⟩ : ∃ b, V14.heap.size = b := ⟨_, rfl⟩
  rw [hbb] at hb ⊢
  have Lf1 := Lib.hid (Nat.le_of_eq hbb)
  have Zf1 := Lib.hid (Nat.le_trans (World.grownBy.size HG.out) (Nat.le_of_eq hbb))
  clear hbb
  replace Hc := Lib.hid (Hc.out.grown g)
  replace Hd := Lib.hid (Hd.out.grown g)
  replace Hd1 := Lib.hid (Hd1.out.grown g)
  replace He := Lib.hid (He.out.grown g)
  replace He1 := Lib.hid (He1.out.grown g)
  replace Hf := Lib.hid (Hf.out.grown g)
  replace HBV := Lib.hid (HBV.out.grown g)
  replace HRW := Lib.hid (HRW.out.grown g)
  replace HRI := Lib.hid (HRI.out.grown g)
  replace HG := Lib.hid (World.grownBy.trans HG.out g)
  clear g
  have Hf1 := Lib.hid hb
  clear hb
  have qc := Hc.out.1
  have fc := Hc.out.2.1
  have qd := Hd.out.1
  have fd := Hd.out.2.1
  have qd1 := Hd1.out.1
  have fd1 := Hd1.out.2.1
  have qe := He.out.1
  have fe := He.out.2.1
  have qe1 := He1.out.1
  have fe1 := He1.out.2.1
  have qf := Hf.out.1
  have ff := Hf.out.2.1
  have qf1 := Hf1.out.1
  have ff1 := Hf1.out.2.1
  go_wp2_with fail
  clear qc fc qd fd qd1 fd1 qe fe qe1 fe1 qf ff qf1 ff1
  go_at_call 18
  refine (iff_at ai bi HE.out.2.2.2 HGD.out (by have := HL.out; omega) HAB.out.1 HAB.out.2 Hc.out.2.2).mono ?_
  rintro e V16 ⟨a16, c16, rfl, hr, g⟩
  replace Hc := Lib.hid (Hc.out.grown g)
  replace Hd := Lib.hid (Hd.out.grown g)
  replace Hd1 := Lib.hid (Hd1.out.grown g)
  replace He := Lib.hid (He.out.grown g)
  replace He1 := Lib.hid (He1.out.grown g)
  replace Hf := Lib.hid (Hf.out.grown g)
  replace Hf1 := Lib.hid (Hf1.out.grown g)
  replace HBV := Lib.hid (HBV.out.grown g)
  replace HRW := Lib.hid (HRW.out.grown g)
  replace HRI := Lib.hid (HRI.out.grown g)
  replace HG := Lib.hid (World.grownBy.trans HG.out g)
  clear g
  have qc := Hc.out.1
  have fc := Hc.out.2.1
  have qd := Hd.out.1
  have fd := Hd.out.2.1
  have qd1 := Hd1.out.1
  have fd1 := Hd1.out.2.1
  have qe := He.out.1
  have fe := He.out.2.1
  have qe1 := He1.out.1
  have fe1 := He1.out.2.1
  have qf := Hf.out.1
  have ff := Hf.out.2.1
  have qf1 := Hf1.out.1
  have ff1 := Hf1.out.2.1
  go_upto_region 12 with fail
  clear qc fc qd fd qd1 fd1 qe fe qe1 fe1 qf ff qf1 ff1
  have hb := CB.new hr
  have g := World.grownBy_alloc V16 (.cells #[.slice a16 g4.length c16] 25) none
  obtain ⟨V17, hV17⟩ : ∃ z, World.alloc V16 (.cells #[.slice a16 g4.length c16] 25) = z := ⟨_, rfl⟩
  rw [hV17] at g hb ⊢
  clear hV17 hr
  obtain ⟨bg, hbb⟩ : ∃ b, V16.heap.size = b := ⟨_, rfl⟩
  rw [hbb] at hb ⊢
  have Lg := Lib.hid (Nat.le_of_eq hbb)
  have Zg := Lib.hid (Nat.le_trans (World.grownBy.size HG.out) (Nat.le_of_eq hbb))
  clear hbb
  replace Hc := Lib.hid (Hc.out.grown g)
  replace Hd := Lib.hid (Hd.out.grown g)
  replace Hd1 := Lib.hid (Hd1.out.grown g)
  replace He := Lib.hid (He.out.grown g)
  replace He1 := Lib.hid (He1.out.grown g)
  replace Hf := Lib.hid (Hf.out.grown g)
  replace Hf1 := Lib.hid (Hf1.out.grown g)
  replace HBV := Lib.hid (HBV.out.grown g)
  replace HRW := Lib.hid (HRW.out.grown g)
  replace HRI := Lib.hid (HRI.out.grown g)
  replace HG := Lib.hid (World.grownBy.trans HG.out g)
  clear g
  have Hg := Lib.hid hb
  clear hb
  have qc := Hc.out.1
  have fc := Hc.out.2.1
  have qd := Hd.out.1
  have fd := Hd.out.2.1
  have qd1 := Hd1.out.1
  have fd1 := Hd1.out.2.1
  have qe := He.out.1
  have fe := He.out.2.1
  have qe1 := He1.out.1
  have fe1 := He1.out.2.1
  have qf := Hf.out.1
  have ff := Hf.out.2.1
  have qf1 := Hf1.out.1
  have ff1 := Hf1.out.2.1
  have qg := Hg.out.1
  have fg := Hg.out.2.1
  go_wp2_with fail
  clear qc fc qd fd qd1 fd1 qe fe qe1 fe1 qf ff qf1 ff1 qg fg
  go_at_call 19
  refine (riff_at ai bi HE.out.2.2.2 HGD.out (by have := HL.out; omega) HAB.out.1 HAB.out.2 Hc.out.2.2).mono ?_
  rintro e V18 ⟨a18, c18, rfl, hr, g⟩
  replace Hc := Lib.hid (Hc.out.grown g)
  replace Hd := Lib.hid (Hd.out.grown g)
  replace Hd1 := Lib.hid (Hd1.out.grown g)
  replace He := Lib.hid (He.out.grown g)
  replace He1 := Lib.hid (He1.out.grown g)
  replace Hf := Lib.hid (Hf.out.grown g)
  replace Hf1 := Lib.hid (Hf1.out.grown g)
  replace Hg := Lib.hid (Hg.out.grown g)
  replace HBV := Lib.hid (HBV.out.grown g)
  replace HRW := Lib.hid (HRW.out.grown g)
  replace HRI := Lib.hid (HRI.out.grown g)
  replace HG := Lib.hid (World.grownBy.trans HG.out g)
  clear g
  have qc := Hc.out.1
  have fc := Hc.out.2.1
  have qd := Hd.out.1
  have fd := Hd.out.2.1
  have qd1 := Hd1.out.1
  have fd1 := Hd1.out.2.1
  have qe := He.out.1
  have fe := He.out.2.1
  have qe1 := He1.out.1
  have fe1 := He1.out.2.1
  have qf := Hf.out.1
  have ff := Hf.out.2.1
  have qf1 := Hf1.out.1
  have ff1 := Hf1.out.2.1
  have qg := Hg.out.1
  have fg := Hg.out.2.1
  go_upto_region 13 with fail
  clear qc fc qd fd qd1 fd1 qe fe qe1 fe1 qf ff qf1 ff1 qg fg
  have hb := CB.new hr
  have g := World.grownBy_alloc V18 (.cells #[.slice a18 g4.length c18] 25) none
  obtain ⟨V19, hV19⟩ : ∃ z, World.alloc V18 (.cells #[.slice a18 g4.length c18] 25) = z := ⟨_, rfl⟩
  rw [hV19] at g hb ⊢
  clear hV19 hr
  obtain ⟨bg1, hbb⟩ : ∃ b, V18.heap.size = b := ⟨_, rfl⟩
  rw [hbb] at hb ⊢
  have Lg1 := Lib.hid (Nat.le_of_eq hbb)
  have Zg1 := Lib.hid (Nat.le_trans (World.grownBy.size HG.out) (Nat.le_of_eq hbb))
  clear hbb
  replace Hc := Lib.hid (Hc.out.grown g)
  replace Hd := Lib.hid (Hd.out.grown g)
  replace Hd1 := Lib.hid (Hd1.out.grown g)
  replace He := Lib.hid (He.out.grown g)
  replace He1 := Lib.hid (He1.out.grown g)
  replace Hf := Lib.hid (Hf.out.grown g)
  replace Hf1 := Lib.hid (Hf1.out.grown g)
  replace Hg := Lib.hid (Hg.out.grown g)
  replace HBV := Lib.hid (HBV.out.grown g)
  replace HRW := Lib.hid (HRW.out.grown g)
  replace HRI := Lib.hid (HRI.out.grown g)
  replace HG := Lib.hid (World.grownBy.trans HG.out g)
  clear g
  have Hg1 := Lib.hid hb
  clear hb
  have qc := Hc.out.1
  have fc := Hc.out.2.1
  have qd := Hd.out.1
  have fd := Hd.out.2.1
  have qd1 := Hd1.out.1
  have fd1 := Hd1.out.2.1
  have qe := He.out.1
  have fe := He.out.2.1
  have qe1 := He1.out.1
  have fe1 := He1.out.2.1
  have qf := Hf.out.1
  have ff := Hf.out.2.1
  have qf1 := Hf1.out.1
  have ff1 := Hf1.out.2.1
  have qg := Hg.out.1
  have fg := Hg.out.2.1
  have qg1 := Hg1.out.1
  have fg1 := Hg1.out.2.1
  go_wp2_with fail
  clear qc fc qd fd qd1 fd1 qe fe qe1 fe1 qf ff qf1 ff1 qg fg qg1 fg1
  go_at_call 20
  refine (same_at (q := true) (decide_eq_true (rfl : g1 = g1)) (by have := HL.out; have := HK.out; omega) (by have := HL.out; have := HK.out; omega) Hd.out.2.2 Hd1.out.2.2).mono ?_
  rintro e V20 ⟨rfl, g⟩
  replace Hc := Lib.hid (Hc.out.grown g)
  replace Hd := Lib.hid (Hd.out.grown g)
  replace Hd1 := Lib.hid (Hd1.out.grown g)
  replace He := Lib.hid (He.out.grown g)
  replace He1 := Lib.hid (He1.out.grown g)
  replace Hf := Lib.hid (Hf.out.grown g)
  replace Hf1 := Lib.hid (Hf1.out.grown g)
  replace Hg := Lib.hid (Hg.out.grown g)
  replace Hg1 := Lib.hid (Hg1.out.grown g)
  replace HBV := Lib.hid (HBV.out.grown g)
  replace HRW := Lib.hid (HRW.out.grown g)
  replace HRI := Lib.hid (HRI.out.grown g)
  replace HG := Lib.hid (World.grownBy.trans HG.out g)
  clear g
  have qc := Hc.out.1
  have fc := Hc.out.2.1
  have qd := Hd.out.1
  have fd := Hd.out.2.1
  have qd1 := Hd1.out.1
  have fd1 := Hd1.out.2.1
  have qe := He.out.1
  have fe := He.out.2.1
  have qe1 := He1.out.1
  have fe1 := He1.out.2.1
  have qf := Hf.out.1
  have ff := Hf.out.2.1
  have qf1 := Hf1.out.1
  have ff1 := Hf1.out.2.1
  have qg := Hg.out.1
  have fg := Hg.out.2.1
  have qg1 := Hg1.out.1
  have fg1 := Hg1.out.2.1
  go_wp2_with fail
  clear qc fc qd fd qd1 fd1 qe fe qe1 fe1 qf ff qf1 ff1 qg fg qg1 fg1
  go_at_call 20
  refine (same_at (q := true) (decide_eq_true (rfl : g2 = g2)) (by have := HL.out; have := HK.out; omega) (by have := HL.out; have := HK.out; omega) He.out.2.2 He1.out.2.2).mono ?_
  rintro e V21 ⟨rfl, g⟩
  replace Hc := Lib.hid (Hc.out.grown g)
  replace Hd := Lib.hid (Hd.out.grown g)
  replace Hd1 := Lib.hid (Hd1.out.grown g)
  replace He := Lib.hid (He.out.grown g)
  replace He1 := Lib.hid (He1.out.grown g)
  replace Hf := Lib.hid (Hf.out.grown g)
  replace Hf1 := Lib.hid (Hf1.out.grown g)
  replace Hg := Lib.hid (Hg.out.grown g)
  replace Hg1 := Lib.hid (Hg1.out.grown g)
  replace HBV := Lib.hid (HBV.out.grown g)
  replace HRW := Lib.hid (HRW.out.grown g)
  replace HRI := Lib.hid (HRI.out.grown g)
  replace HG := Lib.hid (World.grownBy.trans HG.out g)
  clear g
  have qc := Hc.out.1
  have fc := Hc.out.2.1
  have qd := Hd.out.1
  have fd := Hd.out.2.1
  have qd1 := Hd1.out.1
  have fd1 := Hd1.out.2.1
  have qe := He.out.1
  have fe := He.out.2.1
  have qe1 := He1.out.1
  have fe1 := He1.out.2.1
  have qf := Hf.out.1
  have ff := Hf.out.2.1
  have qf1 := Hf1.out.1
  have ff1 := Hf1.out.2.1
  have qg := Hg.out.1
  have fg := Hg.out.2.1
  have qg1 := Hg1.out.1
  have fg1 := Hg1.out.2.1
  go_wp2_with fail
  clear qc fc qd fd qd1 fd1 qe fe qe1 fe1 qf ff qf1 ff1 qg fg qg1 fg1
  go_at_call 20
  refine (same_at (q := true) (decide_eq_true (rfl : g3 = g3)) (by have := HL.out; have := HK.out; omega) (by have := HL.out; have := HK.out; omega) Hf.out.2.2 Hf1.out.2.2).mono ?_
  rintro e V22 ⟨rfl, g⟩
  replace Hc := Lib.hid (Hc.out.grown g)
  replace Hd := Lib.hid (Hd.out.grown g)
  replace Hd1 := Lib.hid (Hd1.out.grown g)
  replace He := Lib.hid (He.out.grown g)
  replace He1 := Lib.hid (He1.out.grown g)
  replace Hf := Lib.hid (Hf.out.grown g)
  replace Hf1 := Lib.hid (Hf1.out.grown g)
  replace Hg := Lib.hid (Hg.out.grown g)
  replace Hg1 := Lib.hid (Hg1.out.grown g)
  replace HBV := Lib.hid (HBV.out.grown g)
  replace HRW := Lib.hid (HRW.out.grown g)
  replace HRI := Lib.hid (HRI.out.grown g)
  replace HG := Lib.hid (World.grownBy.trans HG.out g)
  clear g
  have qc := Hc.out.1
  have fc := Hc.out.2.1
  have qd := Hd.out.1
  have fd := Hd.out.2.1
  have qd1 := Hd1.out.1
  have fd1 := Hd1.out.2.1
  have qe := He.out.1
  have fe := He.out.2.1
  have qe1 := He1.out.1
  have fe1 := He1.out.2.1
  have qf := Hf.out.1
  have ff := Hf.out.2.1
  have qf1 := Hf1.out.1
  have ff1 := Hf1.out.2.1
  have qg := Hg.out.1
  have fg := Hg.out.2.1
  have qg1 := Hg1.out.1
  have fg1 := Hg1.out.2.1
  go_wp2_with fail
  clear qc fc qd fd qd1 fd1 qe fe qe1 fe1 qf ff qf1 ff1 qg fg qg1 fg1
  go_at_call 20
  refine (same_at (q := true) (decide_eq_true (rfl : g4 = g4)) (by have := HL.out; have := HK.out; omega) (by have := HL.out; have := HK.out; omega) Hg.out.2.2 Hg1.out.2.2).mono ?_
  rintro e V23 ⟨rfl, g⟩
  replace Hc := Lib.hid (Hc.out.grown g)
  replace Hd := Lib.hid (Hd.out.grown g)
  replace Hd1 := Lib.hid (Hd1.out.grown g)
  replace He := Lib.hid (He.out.grown g)
  replace He1 := Lib.hid (He1.out.grown g)
  replace Hf := Lib.hid (Hf.out.grown g)
  replace Hf1 := Lib.hid (Hf1.out.grown g)
  replace Hg := Lib.hid (Hg.out.grown g)
  replace Hg1 := Lib.hid (Hg1.out.grown g)
  replace HBV := Lib.hid (HBV.out.grown g)
  replace HRW := Lib.hid (HRW.out.grown g)
  replace HRI := Lib.hid (HRI.out.grown g)
  replace HG := Lib.hid (World.grownBy.trans HG.out g)
  clear g
  have qc := Hc.out.1
  have fc := Hc.out.2.1
  have qd := Hd.out.1
  have fd := Hd.out.2.1
  have qd1 := Hd1.out.1
  have fd1 := Hd1.out.2.1
  have qe := He.out.1
  have fe := He.out.2.1
  have qe1 := He1.out.1
  have fe1 := He1.out.2.1
  have qf := Hf.out.1
  have ff := Hf.out.2.1
  have qf1 := Hf1.out.1
  have ff1 := Hf1.out.2.1
  have qg := Hg.out.1
  have fg := Hg.out.2.1
  have qg1 := Hg1.out.1
  have fg1 := Hg1.out.2.1
  go_upto_region 15 with fail
  clear qc fc qd fd qd1 fd1 qe fe qe1 fe1 qf ff qf1 ff1 qg fg qg1 fg1
  have HS := Lib.hid (fun (Wh : World) (hWh : V23.grownBy Wh none) => (⟨hWh, hWh.cell Hc.out.1 (by simp), hWh.cell HRW.out.1 (by simp)⟩ : (fun Wh : World => V23.grownBy Wh none ∧ Wh.cell? ⟨bc, 0, none⟩ = some (.slice a2 g0.length c2) ∧ Wh.cell? ⟨w.heap.size, 0, none⟩ = some (.slice ga ng gc)) Wh))
  have hdr : V23.grownBy V23.drew none := ⟨rfl, rfl, rfl, Nat.le_refl _, fun _ _ _ => rfl⟩
  refine wp_region_held_drew (S := (fun Wh : World => V23.grownBy Wh none ∧ Wh.cell? ⟨bc, 0, none⟩ = some (.slice a2 g0.length c2) ∧ Wh.cell? ⟨w.heap.size, 0, none⟩ = some (.slice ga ng gc))) (by kernel_rfl) (HS.out _ hdr) (fun hHeld => ?_)
  refine wpAnyH_take (i := 0) (oi := { dst := some 125, op := Op.move (Operand.tmp 13), type := 4, pos := "law.go:45", after := #[], guard := none }) (v := ?_) rfl (by kernel_rfl) (by kernel_rfl) (by kernel_rfl) (fun _ _ _ h => h) (Or.inl ⟨by rfl, ?_⟩) (by assumption) ?_
  rotate_left 1
  · (intro W hSW; (try dsimp only at hSW); first | (go_simp; done) | (go_simp; with_reducible rfl))
  try simp only [Act.put, List.setIfInBounds_toArray, List.set_cons_zero, List.set_cons_succ]
  refine wpAnyH_take (i := 1) (oi := { dst := some 126, op := Op.move (Operand.tmp 125), type := 4, pos := "law.go:45", after := #[{ on := 0, ground := Ground.data }], guard := none }) (v := ?_) rfl (by kernel_rfl) (by kernel_rfl) (by kernel_rfl) (fun _ _ _ h => h) (Or.inl ⟨by rfl, ?_⟩) (by assumption) ?_
  rotate_left 1
  · (intro W hSW; (try dsimp only at hSW); first | (go_simp; done) | (go_simp; with_reducible rfl))
  try simp only [Act.put, List.setIfInBounds_toArray, List.set_cons_zero, List.set_cons_succ]
  refine wpAnyH_take (i := 2) (oi := { dst := some 127, op := Op.move (Operand.tmp 32), type := 4, pos := "law.go:45", after := #[{ on := 1, ground := Ground.guard }], guard := some (1, true) }) (v := ?_) rfl (by kernel_rfl) (by kernel_rfl) (by kernel_rfl) (fun _ _ _ h => h) (Or.inl ⟨by rfl, ?_⟩) (by assumption) ?_
  rotate_left 1
  · (intro W hSW; (try dsimp only at hSW); first | (go_simp; done) | (go_simp; with_reducible rfl))
  try simp only [Act.put, List.setIfInBounds_toArray, List.set_cons_zero, List.set_cons_succ]
  refine wpAnyH_take (i := 3) (oi := { dst := some 128, op := Op.pick (Operand.tmp 126) (Operand.tmp 127) (Operand.const (Value.bool false)), type := 4, pos := "law.go:45", after := #[{ on := 1, ground := Ground.data }, { on := 2, ground := Ground.data }], guard := none }) (v := ?_) rfl (by kernel_rfl) (by kernel_rfl) (by kernel_rfl) (fun _ _ _ h => h) (Or.inl ⟨by rfl, ?_⟩) (by assumption) ?_
  rotate_left 1
  · (intro W hSW; (try dsimp only at hSW); first | (go_simp; done) | (go_simp; with_reducible rfl))
  try simp only [Act.put, List.setIfInBounds_toArray, List.set_cons_zero, List.set_cons_succ]
  refine wpAnyH_take (i := 4) (oi := { dst := some 129, op := Op.move (Operand.tmp 128), type := 4, pos := "law.go:45", after := #[{ on := 3, ground := Ground.data }, { on := 1, ground := Ground.chain }], guard := none }) (v := ?_) rfl (by kernel_rfl) (by kernel_rfl) (by kernel_rfl) (fun _ _ _ h => h) (Or.inl ⟨by rfl, ?_⟩) (by assumption) ?_
  rotate_left 1
  · (intro W hSW; (try dsimp only at hSW); first | (go_simp; done) | (go_simp; with_reducible rfl))
  try simp only [Act.put, List.setIfInBounds_toArray, List.set_cons_zero, List.set_cons_succ]
  refine wpAnyH_take (i := 5) (oi := { dst := some 130, op := Op.move (Operand.tmp 33), type := 4, pos := "law.go:45", after := #[{ on := 4, ground := Ground.guard }], guard := some (4, true) }) (v := ?_) rfl (by kernel_rfl) (by kernel_rfl) (by kernel_rfl) (fun _ _ _ h => h) (Or.inl ⟨by rfl, ?_⟩) (by assumption) ?_
  rotate_left 1
  · (intro W hSW; (try dsimp only at hSW); first | (go_simp; done) | (go_simp; with_reducible rfl))
  try simp only [Act.put, List.setIfInBounds_toArray, List.set_cons_zero, List.set_cons_succ]
  refine wpAnyH_take (i := 6) (oi := { dst := some 131, op := Op.pick (Operand.tmp 129) (Operand.tmp 130) (Operand.const (Value.bool false)), type := 4, pos := "law.go:45", after := #[{ on := 4, ground := Ground.data }, { on := 5, ground := Ground.data }], guard := none }) (v := ?_) rfl (by kernel_rfl) (by kernel_rfl) (by kernel_rfl) (fun _ _ _ h => h) (Or.inl ⟨by rfl, ?_⟩) (by assumption) ?_
  rotate_left 1
  · (intro W hSW; (try dsimp only at hSW); first | (go_simp; done) | (go_simp; with_reducible rfl))
  try simp only [Act.put, List.setIfInBounds_toArray, List.set_cons_zero, List.set_cons_succ]
  refine wpAnyH_take (i := 7) (oi := { dst := some 132, op := Op.move (Operand.tmp 131), type := 4, pos := "law.go:45", after := #[{ on := 6, ground := Ground.data }, { on := 4, ground := Ground.chain }], guard := none }) (v := ?_) rfl (by kernel_rfl) (by kernel_rfl) (by kernel_rfl) (fun _ _ _ h => h) (Or.inl ⟨by rfl, ?_⟩) (by assumption) ?_
  rotate_left 1
  · (intro W hSW; (try dsimp only at hSW); first | (go_simp; done) | (go_simp; with_reducible rfl))
  try simp only [Act.put, List.setIfInBounds_toArray, List.set_cons_zero, List.set_cons_succ]
  refine wpAnyH_take (i := 8) (oi := { dst := some 133, op := Op.move (Operand.tmp 17), type := 3, pos := "law.go:45", after := #[{ on := 7, ground := Ground.guard }], guard := some (7, true) }) (v := ?_) rfl (by kernel_rfl) (by kernel_rfl) (by kernel_rfl) (fun _ _ _ h => h) (Or.inl ⟨by rfl, ?_⟩) (by assumption) ?_
  rotate_left 1
  · (intro W hSW; (try dsimp only at hSW); first | (go_simp; done) | (go_simp; with_reducible rfl))
  try simp only [Act.put, List.setIfInBounds_toArray, List.set_cons_zero, List.set_cons_succ]
  refine wpAnyH_take (i := 9) (oi := { dst := some 134, op := Op.move (Operand.tmp 19), type := 3, pos := "law.go:45", after := #[{ on := 7, ground := Ground.guard }], guard := some (7, true) }) (v := ?_) rfl (by kernel_rfl) (by kernel_rfl) (by kernel_rfl) (fun _ _ _ h => h) (Or.inl ⟨by rfl, ?_⟩) (by assumption) ?_
  rotate_left 1
  · (intro W hSW; (try dsimp only at hSW); first | (go_simp; done) | (go_simp; with_reducible rfl))
  try simp only [Act.put, List.setIfInBounds_toArray, List.set_cons_zero, List.set_cons_succ]
  refine wpAnyH_take (i := 10) (oi := { dst := some 135, op := Op.binOp BinOp.eql 3 (Operand.tmp 133) (Operand.tmp 134) 3, type := 4, pos := "law.go:45", after := #[{ on := 8, ground := Ground.data }, { on := 9, ground := Ground.data }, { on := 7, ground := Ground.guard }], guard := some (7, true) }) (v := ?_) rfl (by kernel_rfl) (by kernel_rfl) (by kernel_rfl) (fun _ _ _ h => h) (Or.inl ⟨by rfl, ?_⟩) (by assumption) ?_
  rotate_left 1
  · (intro W hSW; (try dsimp only at hSW); first | (go_simp; done) | (go_simp; with_reducible rfl))
  try simp only [Act.put, List.setIfInBounds_toArray, List.set_cons_zero, List.set_cons_succ]
  refine wpAnyH_take (i := 11) (oi := { dst := some 136, op := Op.pick (Operand.tmp 132) (Operand.tmp 135) (Operand.const (Value.bool false)), type := 4, pos := "law.go:45", after := #[{ on := 7, ground := Ground.data }, { on := 10, ground := Ground.data }], guard := none }) (v := ?_) rfl (by kernel_rfl) (by kernel_rfl) (by kernel_rfl) (fun _ _ _ h => h) (Or.inl ⟨by rfl, ?_⟩) (by assumption) ?_
  rotate_left 1
  · (intro W hSW; (try dsimp only at hSW); first | (go_simp; done) | (go_simp; with_reducible rfl))
  try simp only [Act.put, List.setIfInBounds_toArray, List.set_cons_zero, List.set_cons_succ]
  refine wpAnyH_take (i := 12) (oi := { dst := some 137, op := Op.move (Operand.tmp 136), type := 4, pos := "law.go:45", after := #[{ on := 11, ground := Ground.data }, { on := 7, ground := Ground.chain }], guard := none }) (v := ?_) rfl (by kernel_rfl) (by kernel_rfl) (by kernel_rfl) (fun _ _ _ h => h) (Or.inl ⟨by rfl, ?_⟩) (by assumption) ?_
  rotate_left 1
  · (intro W hSW; (try dsimp only at hSW); first | (go_simp; done) | (go_simp; with_reducible rfl))
  try simp only [Act.put, List.setIfInBounds_toArray, List.set_cons_zero, List.set_cons_succ]
  refine wpAnyH_take (i := 13) (oi := { dst := some 138, op := Op.move (Operand.tmp 21), type := 3, pos := "law.go:45", after := #[{ on := 12, ground := Ground.guard }], guard := some (12, true) }) (v := ?_) rfl (by kernel_rfl) (by kernel_rfl) (by kernel_rfl) (fun _ _ _ h => h) (Or.inl ⟨by rfl, ?_⟩) (by assumption) ?_
  rotate_left 1
  · (intro W hSW; (try dsimp only at hSW); first | (go_simp; done) | (go_simp; with_reducible rfl))
  try simp only [Act.put, List.setIfInBounds_toArray, List.set_cons_zero, List.set_cons_succ]
  refine wpAnyH_take (i := 14) (oi := { dst := some 139, op := Op.move (Operand.tmp 23), type := 3, pos := "law.go:45", after := #[{ on := 12, ground := Ground.guard }], guard := some (12, true) }) (v := ?_) rfl (by kernel_rfl) (by kernel_rfl) (by kernel_rfl) (fun _ _ _ h => h) (Or.inl ⟨by rfl, ?_⟩) (by assumption) ?_
  rotate_left 1
  · (intro W hSW; (try dsimp only at hSW); first | (go_simp; done) | (go_simp; with_reducible rfl))
  try simp only [Act.put, List.setIfInBounds_toArray, List.set_cons_zero, List.set_cons_succ]
  refine wpAnyH_take (i := 15) (oi := { dst := some 140, op := Op.binOp BinOp.eql 3 (Operand.tmp 138) (Operand.tmp 139) 3, type := 4, pos := "law.go:45", after := #[{ on := 13, ground := Ground.data }, { on := 14, ground := Ground.data }, { on := 12, ground := Ground.guard }], guard := some (12, true) }) (v := ?_) rfl (by kernel_rfl) (by kernel_rfl) (by kernel_rfl) (fun _ _ _ h => h) (Or.inl ⟨by rfl, ?_⟩) (by assumption) ?_
  rotate_left 1
  · (intro W hSW; (try dsimp only at hSW); first | (go_simp; done) | (go_simp; with_reducible rfl))
  try simp only [Act.put, List.setIfInBounds_toArray, List.set_cons_zero, List.set_cons_succ]
  refine wpAnyH_take (i := 16) (oi := { dst := some 141, op := Op.pick (Operand.tmp 137) (Operand.tmp 140) (Operand.const (Value.bool false)), type := 4, pos := "law.go:45", after := #[{ on := 12, ground := Ground.data }, { on := 15, ground := Ground.data }], guard := none }) (v := ?_) rfl (by kernel_rfl) (by kernel_rfl) (by kernel_rfl) (fun _ _ _ h => h) (Or.inl ⟨by rfl, ?_⟩) (by assumption) ?_
  rotate_left 1
  · (intro W hSW; (try dsimp only at hSW); first | (go_simp; done) | (go_simp; with_reducible rfl))
  try simp only [Act.put, List.setIfInBounds_toArray, List.set_cons_zero, List.set_cons_succ]
  refine wpAnyH_take (i := 17) (oi := { dst := some 142, op := Op.move (Operand.tmp 141), type := 4, pos := "law.go:45", after := #[{ on := 16, ground := Ground.data }, { on := 12, ground := Ground.chain }], guard := none }) (v := ?_) rfl (by kernel_rfl) (by kernel_rfl) (by kernel_rfl) (fun _ _ _ h => h) (Or.inl ⟨by rfl, ?_⟩) (by assumption) ?_
  rotate_left 1
  · (intro W hSW; (try dsimp only at hSW); first | (go_simp; done) | (go_simp; with_reducible rfl))
  try simp only [Act.put, List.setIfInBounds_toArray, List.set_cons_zero, List.set_cons_succ]
  refine wpAnyH_take (i := 18) (oi := { dst := some 143, op := Op.move (Operand.tmp 25), type := 3, pos := "law.go:45", after := #[{ on := 17, ground := Ground.guard }], guard := some (17, true) }) (v := ?_) rfl (by kernel_rfl) (by kernel_rfl) (by kernel_rfl) (fun _ _ _ h => h) (Or.inl ⟨by rfl, ?_⟩) (by assumption) ?_
  rotate_left 1
  · (intro W hSW; (try dsimp only at hSW); first | (go_simp; done) | (go_simp; with_reducible rfl))
  try simp only [Act.put, List.setIfInBounds_toArray, List.set_cons_zero, List.set_cons_succ]
  refine wpAnyH_take (i := 19) (oi := { dst := some 144, op := Op.move (Operand.tmp 27), type := 3, pos := "law.go:45", after := #[{ on := 17, ground := Ground.guard }], guard := some (17, true) }) (v := ?_) rfl (by kernel_rfl) (by kernel_rfl) (by kernel_rfl) (fun _ _ _ h => h) (Or.inl ⟨by rfl, ?_⟩) (by assumption) ?_
  rotate_left 1
  · (intro W hSW; (try dsimp only at hSW); first | (go_simp; done) | (go_simp; with_reducible rfl))
  try simp only [Act.put, List.setIfInBounds_toArray, List.set_cons_zero, List.set_cons_succ]
  refine wpAnyH_take (i := 20) (oi := { dst := some 145, op := Op.binOp BinOp.eql 3 (Operand.tmp 143) (Operand.tmp 144) 3, type := 4, pos := "law.go:45", after := #[{ on := 18, ground := Ground.data }, { on := 19, ground := Ground.data }, { on := 17, ground := Ground.guard }], guard := some (17, true) }) (v := ?_) rfl (by kernel_rfl) (by kernel_rfl) (by kernel_rfl) (fun _ _ _ h => h) (Or.inl ⟨by rfl, ?_⟩) (by assumption) ?_
  rotate_left 1
  · (intro W hSW; (try dsimp only at hSW); first | (go_simp; done) | (go_simp; with_reducible rfl))
  try simp only [Act.put, List.setIfInBounds_toArray, List.set_cons_zero, List.set_cons_succ]
  refine wpAnyH_take (i := 21) (oi := { dst := some 146, op := Op.pick (Operand.tmp 142) (Operand.tmp 145) (Operand.const (Value.bool false)), type := 4, pos := "law.go:45", after := #[{ on := 17, ground := Ground.data }, { on := 20, ground := Ground.data }], guard := none }) (v := ?_) rfl (by kernel_rfl) (by kernel_rfl) (by kernel_rfl) (fun _ _ _ h => h) (Or.inl ⟨by rfl, ?_⟩) (by assumption) ?_
  rotate_left 1
  · (intro W hSW; (try dsimp only at hSW); first | (go_simp; done) | (go_simp; with_reducible rfl))
  try simp only [Act.put, List.setIfInBounds_toArray, List.set_cons_zero, List.set_cons_succ]
  refine wpAnyH_take (i := 22) (oi := { dst := some 147, op := Op.move (Operand.tmp 146), type := 4, pos := "law.go:45", after := #[{ on := 21, ground := Ground.data }, { on := 17, ground := Ground.chain }], guard := none }) (v := ?_) rfl (by kernel_rfl) (by kernel_rfl) (by kernel_rfl) (fun _ _ _ h => h) (Or.inl ⟨by rfl, ?_⟩) (by assumption) ?_
  rotate_left 1
  · (intro W hSW; (try dsimp only at hSW); first | (go_simp; done) | (go_simp; with_reducible rfl))
  try simp only [Act.put, List.setIfInBounds_toArray, List.set_cons_zero, List.set_cons_succ]
  refine wpAnyH_take (i := 23) (oi := { dst := some 148, op := Op.move (Operand.tmp 29), type := 3, pos := "law.go:45", after := #[{ on := 22, ground := Ground.guard }], guard := some (22, true) }) (v := ?_) rfl (by kernel_rfl) (by kernel_rfl) (by kernel_rfl) (fun _ _ _ h => h) (Or.inl ⟨by rfl, ?_⟩) (by assumption) ?_
  rotate_left 1
  · (intro W hSW; (try dsimp only at hSW); first | (go_simp; done) | (go_simp; with_reducible rfl))
  try simp only [Act.put, List.setIfInBounds_toArray, List.set_cons_zero, List.set_cons_succ]
  refine wpAnyH_take (i := 24) (oi := { dst := some 149, op := Op.move (Operand.tmp 31), type := 3, pos := "law.go:45", after := #[{ on := 22, ground := Ground.guard }], guard := some (22, true) }) (v := ?_) rfl (by kernel_rfl) (by kernel_rfl) (by kernel_rfl) (fun _ _ _ h => h) (Or.inl ⟨by rfl, ?_⟩) (by assumption) ?_
  rotate_left 1
  · (intro W hSW; (try dsimp only at hSW); first | (go_simp; done) | (go_simp; with_reducible rfl))
  try simp only [Act.put, List.setIfInBounds_toArray, List.set_cons_zero, List.set_cons_succ]
  refine wpAnyH_take (i := 25) (oi := { dst := some 150, op := Op.binOp BinOp.eql 3 (Operand.tmp 148) (Operand.tmp 149) 3, type := 4, pos := "law.go:45", after := #[{ on := 23, ground := Ground.data }, { on := 24, ground := Ground.data }, { on := 22, ground := Ground.guard }], guard := some (22, true) }) (v := ?_) rfl (by kernel_rfl) (by kernel_rfl) (by kernel_rfl) (fun _ _ _ h => h) (Or.inl ⟨by rfl, ?_⟩) (by assumption) ?_
  rotate_left 1
  · (intro W hSW; (try dsimp only at hSW); first | (go_simp; done) | (go_simp; with_reducible rfl))
  try simp only [Act.put, List.setIfInBounds_toArray, List.set_cons_zero, List.set_cons_succ]
  refine wpAnyH_take (i := 26) (oi := { dst := some 151, op := Op.pick (Operand.tmp 147) (Operand.tmp 150) (Operand.const (Value.bool false)), type := 4, pos := "law.go:45", after := #[{ on := 22, ground := Ground.data }, { on := 25, ground := Ground.data }], guard := none }) (v := ?_) rfl (by kernel_rfl) (by kernel_rfl) (by kernel_rfl) (fun _ _ _ h => h) (Or.inl ⟨by rfl, ?_⟩) (by assumption) ?_
  rotate_left 1
  · (intro W hSW; (try dsimp only at hSW); first | (go_simp; done) | (go_simp; with_reducible rfl))
  try simp only [Act.put, List.setIfInBounds_toArray, List.set_cons_zero, List.set_cons_succ]
  refine wpAnyH_take (i := 27) (oi := { dst := some 152, op := Op.move (Operand.tmp 151), type := 4, pos := "law.go:45", after := #[{ on := 26, ground := Ground.data }, { on := 22, ground := Ground.chain }], guard := none }) (v := ?_) rfl (by kernel_rfl) (by kernel_rfl) (by kernel_rfl) (fun _ _ _ h => h) (Or.inl ⟨by rfl, ?_⟩) (by assumption) ?_
  rotate_left 1
  · (intro W hSW; (try dsimp only at hSW); first | (go_simp; done) | (go_simp; with_reducible rfl))
  try simp only [Act.put, List.setIfInBounds_toArray, List.set_cons_zero, List.set_cons_succ]
  refine wpAnyH_take (i := 28) (oi := { dst := some 153, op := Op.load 25 (Operand.tmp 7), type := 25, pos := "law.go:45", after := #[{ on := 27, ground := Ground.guard }], guard := some (27, true) }) (v := ?_) rfl (by kernel_rfl) (by kernel_rfl) (by kernel_rfl) (fun _ _ _ h => h) (Or.inl ⟨by rfl, ?_⟩) (by assumption) ?_
  rotate_left 1
  · (intro W hSW; (try dsimp only at hSW); first | (go_simp; done) | (go_simp; with_reducible rfl))
  try simp only [Act.put, List.setIfInBounds_toArray, List.set_cons_zero, List.set_cons_succ]
  refine wpAnyH_take (i := 30) (oi := { dst := some 155, op := Op.load 25 (Operand.tmp 7), type := 25, pos := "law.go:45", after := #[{ on := 27, ground := Ground.guard }], guard := some (27, true) }) (v := ?_) rfl (by kernel_rfl) (by kernel_rfl) (by kernel_rfl) (fun _ _ _ h => h) (Or.inl ⟨by rfl, ?_⟩) (by assumption) ?_
  rotate_left 1
  · (intro W hSW; (try dsimp only at hSW); first | (go_simp; done) | (go_simp; with_reducible rfl))
  try simp only [Act.put, List.setIfInBounds_toArray, List.set_cons_zero, List.set_cons_succ]
  refine wpAnyH_ready (rs := [29]) (by kernel_rfl) (by simp) ?_
  refine (AllReadyH.cons (o := { dst := some 154, op := Op.call { callee := Callee.value (Operand.func 21), args := #[Operand.tmp 153], argTypes := #[25] }, type := 4, pos := "law.go:45", after := #[{ on := 28, ground := Ground.data }, { on := 27, ground := Ground.chain }, { on := 27, ground := Ground.guard }], guard := some (27, true) }) rfl (fun K hK => ?_) AllReadyH.nil)
  rw [if_pos (by rfl)]
  go_simp
  go_at_call 21
  refine (valid_len HNG.out (HRW.out.grown hdr).2 (by rw [HNG.out]; omega) HWF.out).mono ?_
  rintro e wv1 ⟨b1, rfl, hb1, gv1⟩
  have hgv1 := World.grownBy.trans hdr gv1
  go_wp2_with fail
  refine hK.out _ _ (HS.out _ hgv1) (fun hHeld => ?_)
  clear hK K
  try simp only [Act.put, List.setIfInBounds_toArray, List.set_cons_zero, List.set_cons_succ]
  refine wpAnyH_ready (rs := [31]) (by kernel_rfl) (by simp) ?_
  refine (AllReadyH.cons (o := { dst := some 156, op := Op.call { callee := Callee.value (Operand.func 22), args := #[Operand.tmp 155], argTypes := #[25] }, type := 4, pos := "law.go:45", after := #[{ on := 30, ground := Ground.data }, { on := 29, ground := Ground.chain }, { on := 27, ground := Ground.guard }], guard := some (27, true) }) rfl (fun K hK => ?_) AllReadyH.nil)
  rw [if_pos (by rfl)]
  go_simp
  go_at_call 22
  refine (rvalid_len HNG.out (HRW.out.grown hgv1).2 (by rw [HNG.out]; omega) HWF.out).mono ?_
  rintro e wv2 ⟨b2, rfl, hb2, gv2⟩
  have hgv2 := World.grownBy.trans hgv1 gv2
  obtain rfl : b2 = b1 := by cases b1 <;> cases b2 <;> simp_all
  go_wp2_with fail
  refine hK.out _ _ (HS.out _ hgv2) (fun hHeld => ?_)
  clear hK K
  try simp only [Act.put, List.setIfInBounds_toArray, List.set_cons_zero, List.set_cons_succ]
  refine wpAnyH_take (i := 32) (oi := { dst := some 157, op := Op.binOp BinOp.eql 4 (Operand.tmp 154) (Operand.tmp 156) 4, type := 4, pos := "law.go:45", after := #[{ on := 29, ground := Ground.data }, { on := 31, ground := Ground.data }, { on := 27, ground := Ground.guard }], guard := some (27, true) }) (v := ?_) rfl (by kernel_rfl) (by kernel_rfl) (by kernel_rfl) (fun _ _ _ h => h) (Or.inl ⟨by rfl, ?_⟩) (by assumption) ?_
  rotate_left 1
  · (intro W hSW; (try dsimp only at hSW); first | (go_simp; done) | (go_simp; with_reducible rfl))
  try simp only [Act.put, List.setIfInBounds_toArray, List.set_cons_zero, List.set_cons_succ]
  refine wpAnyH_take (i := 33) (oi := { dst := some 158, op := Op.pick (Operand.tmp 152) (Operand.tmp 157) (Operand.const (Value.bool false)), type := 4, pos := "law.go:45", after := #[{ on := 27, ground := Ground.data }, { on := 32, ground := Ground.data }], guard := none }) (v := ?_) rfl (by kernel_rfl) (by kernel_rfl) (by kernel_rfl) (fun _ _ _ h => h) (Or.inl ⟨by rfl, ?_⟩) (by assumption) ?_
  rotate_left 1
  · (intro W hSW; (try dsimp only at hSW); first | (go_simp; done) | (go_simp; with_reducible rfl))
  try simp only [Act.put, List.setIfInBounds_toArray, List.set_cons_zero, List.set_cons_succ]
  refine wpAnyH_take (i := 34) (oi := { dst := some 159, op := Op.move (Operand.tmp 158), type := 4, pos := "law.go:45", after := #[{ on := 33, ground := Ground.data }, { on := 31, ground := Ground.chain }], guard := none }) (v := ?_) rfl (by kernel_rfl) (by kernel_rfl) (by kernel_rfl) (fun _ _ _ h => h) (Or.inl ⟨by rfl, ?_⟩) (by assumption) ?_
  rotate_left 1
  · (intro W hSW; (try dsimp only at hSW); first | (go_simp; done) | (go_simp; with_reducible rfl))
  try simp only [Act.put, List.setIfInBounds_toArray, List.set_cons_zero, List.set_cons_succ]
  refine wpAnyH_take (i := 35) (oi := { dst := some 160, op := Op.load 25 (Operand.tmp 14), type := 25, pos := "law.go:45", after := #[{ on := 34, ground := Ground.guard }], guard := some (34, true) }) (v := ?_) rfl (by kernel_rfl) (by kernel_rfl) (by kernel_rfl) (fun _ _ _ h => h) (Or.inl ⟨by rfl, ?_⟩) (by assumption) ?_
  rotate_left 1
  · (intro W hSW; (try dsimp only at hSW); first | (go_simp; done) | (go_simp; with_reducible rfl))
  try simp only [Act.put, List.setIfInBounds_toArray, List.set_cons_zero, List.set_cons_succ]
  refine wpAnyH_ready (rs := [36]) (by kernel_rfl) (by simp) ?_
  refine (AllReadyH.cons (o := { dst := some 161, op := Op.call { callee := Callee.value (Operand.func 21), args := #[Operand.tmp 160], argTypes := #[25] }, type := 4, pos := "law.go:45", after := #[{ on := 35, ground := Ground.data }, { on := 34, ground := Ground.chain }, { on := 34, ground := Ground.guard }], guard := some (34, true) }) rfl (fun K hK => ?_) AllReadyH.nil)
  rw [if_pos (by rfl)]
  go_simp
  go_at_call 21
  refine (valid_good_calls HGD.out (by have := HL.out; have := HK.out; omega) (Hc.out.grown hgv2).2.2).mono ?_
  rintro e wc3 ⟨rfl, gc3⟩
  have hgr3 := World.grownBy.trans hgv2 gc3
  go_wp2_with fail
  refine hK.out _ _ (HS.out _ hgr3) (fun hHeld => ?_)
  clear hK K
  try simp only [Act.put, List.setIfInBounds_toArray, List.set_cons_zero, List.set_cons_succ]
  refine wpAnyH_take (i := 37) (oi := { dst := some 162, op := Op.pick (Operand.tmp 159) (Operand.tmp 161) (Operand.const (Value.bool false)), type := 4, pos := "law.go:45", after := #[{ on := 34, ground := Ground.data }, { on := 36, ground := Ground.data }], guard := none }) (v := ?_) rfl (by kernel_rfl) (by kernel_rfl) (by kernel_rfl) (fun _ _ _ h => h) (Or.inl ⟨by rfl, ?_⟩) (by assumption) ?_
  rotate_left 1
  · (intro W hSW; (try dsimp only at hSW); first | (go_simp; done) | (go_simp; with_reducible rfl))
  try simp only [Act.put, List.setIfInBounds_toArray, List.set_cons_zero, List.set_cons_succ]
  refine wpAnyH_take (i := 38) (oi := { dst := some 163, op := Op.move (Operand.tmp 162), type := 4, pos := "law.go:45", after := #[{ on := 37, ground := Ground.data }, { on := 36, ground := Ground.chain }], guard := none }) (v := ?_) rfl (by kernel_rfl) (by kernel_rfl) (by kernel_rfl) (fun _ _ _ h => h) (Or.inl ⟨by rfl, ?_⟩) (by assumption) ?_
  rotate_left 1
  · (intro W hSW; (try dsimp only at hSW); first | (go_simp; done) | (go_simp; with_reducible rfl))
  try simp only [Act.put, List.setIfInBounds_toArray, List.set_cons_zero, List.set_cons_succ]
  refine wpAnyH_take (i := 39) (oi := { dst := some 164, op := Op.load 25 (Operand.tmp 14), type := 25, pos := "law.go:45", after := #[{ on := 38, ground := Ground.guard }], guard := some (38, true) }) (v := ?_) rfl (by kernel_rfl) (by kernel_rfl) (by kernel_rfl) (fun _ _ _ h => h) (Or.inl ⟨by rfl, ?_⟩) (by assumption) ?_
  rotate_left 1
  · (intro W hSW; (try dsimp only at hSW); first | (go_simp; done) | (go_simp; with_reducible rfl))
  try simp only [Act.put, List.setIfInBounds_toArray, List.set_cons_zero, List.set_cons_succ]
  refine wpAnyH_take (i := 40) (oi := { dst := some 165, op := Op.move (Operand.tmp 5), type := 26, pos := "law.go:45", after := #[{ on := 38, ground := Ground.guard }], guard := some (38, true) }) (v := ?_) rfl (by kernel_rfl) (by kernel_rfl) (by kernel_rfl) (fun _ _ _ h => h) (Or.inl ⟨by rfl, ?_⟩) (by assumption) ?_
  rotate_left 1
  · (intro W hSW; (try dsimp only at hSW); first | (go_simp; done) | (go_simp; with_reducible rfl))
  try simp only [Act.put, List.setIfInBounds_toArray, List.set_cons_zero, List.set_cons_succ]
  refine wpAnyH_take (i := 41) (oi := { dst := some 166, op := Op.move (Operand.tmp 3), type := 3, pos := "law.go:45", after := #[{ on := 38, ground := Ground.guard }], guard := some (38, true) }) (v := ?_) rfl (by kernel_rfl) (by kernel_rfl) (by kernel_rfl) (fun _ _ _ h => h) (Or.inl ⟨by rfl, ?_⟩) (by assumption) ?_
  rotate_left 1
  · (intro W hSW; (try dsimp only at hSW); first | (go_simp; done) | (go_simp; with_reducible rfl))
  try simp only [Act.put, List.setIfInBounds_toArray, List.set_cons_zero, List.set_cons_succ]
  refine wpAnyH_take (i := 43) (oi := { dst := some 168, op := Op.load 25 (Operand.tmp 14), type := 25, pos := "law.go:45", after := #[{ on := 38, ground := Ground.guard }], guard := some (38, true) }) (v := ?_) rfl (by kernel_rfl) (by kernel_rfl) (by kernel_rfl) (fun _ _ _ h => h) (Or.inl ⟨by rfl, ?_⟩) (by assumption) ?_
  rotate_left 1
  · (intro W hSW; (try dsimp only at hSW); first | (go_simp; done) | (go_simp; with_reducible rfl))
  try simp only [Act.put, List.setIfInBounds_toArray, List.set_cons_zero, List.set_cons_succ]
  refine wpAnyH_take (i := 44) (oi := { dst := some 169, op := Op.move (Operand.tmp 5), type := 26, pos := "law.go:45", after := #[{ on := 38, ground := Ground.guard }], guard := some (38, true) }) (v := ?_) rfl (by kernel_rfl) (by kernel_rfl) (by kernel_rfl) (fun _ _ _ h => h) (Or.inl ⟨by rfl, ?_⟩) (by assumption) ?_
  rotate_left 1
  · (intro W hSW; (try dsimp only at hSW); first | (go_simp; done) | (go_simp; with_reducible rfl))
  try simp only [Act.put, List.setIfInBounds_toArray, List.set_cons_zero, List.set_cons_succ]
  refine wpAnyH_take (i := 45) (oi := { dst := some 170, op := Op.move (Operand.tmp 3), type := 3, pos := "law.go:45", after := #[{ on := 38, ground := Ground.guard }], guard := some (38, true) }) (v := ?_) rfl (by kernel_rfl) (by kernel_rfl) (by kernel_rfl) (fun _ _ _ h => h) (Or.inl ⟨by rfl, ?_⟩) (by assumption) ?_
  rotate_left 1
  · (intro W hSW; (try dsimp only at hSW); first | (go_simp; done) | (go_simp; with_reducible rfl))
  try simp only [Act.put, List.setIfInBounds_toArray, List.set_cons_zero, List.set_cons_succ]
  refine wpAnyH_ready (rs := [42]) (by kernel_rfl) (by simp) ?_
  refine (AllReadyH.cons (o := { dst := some 167, op := Op.call { callee := Callee.value (Operand.func 23), args := #[Operand.tmp 164, Operand.tmp 165, Operand.tmp 166], argTypes := #[25, 26, 3] }, type := 4, pos := "law.go:45", after := #[{ on := 39, ground := Ground.data }, { on := 40, ground := Ground.data }, { on := 41, ground := Ground.data }, { on := 38, ground := Ground.chain }, { on := 38, ground := Ground.guard }], guard := some (38, true) }) rfl (fun K hK => ?_) AllReadyH.nil)
  rw [if_pos (by rfl)]
  go_simp
  go_at_call 23
  refine (eval_at3 HNV.out ai HPE.out (by have := HL.out; have := HK.out; omega) (by rw [HNV.out]; omega) (good_bounds HGD.out (by have := HL.out; have := HK.out; omega)) HAB.out.1 (Hc.out.grown hgr3).2.2 (HBV.out.grown hgr3)).mono ?_
  rintro e wc4 ⟨rfl, gc4⟩
  have hgr4 := World.grownBy.trans hgr3 gc4
  go_wp2_with fail
  refine hK.out _ _ (HS.out _ hgr4) (fun hHeld => ?_)
  clear hK K
  try simp only [Act.put, List.setIfInBounds_toArray, List.set_cons_zero, List.set_cons_succ]
  refine wpAnyH_ready (rs := [46]) (by kernel_rfl) (by simp) ?_
  refine (AllReadyH.cons (o := { dst := some 171, op := Op.call { callee := Callee.value (Operand.func 24), args := #[Operand.tmp 168, Operand.tmp 169, Operand.tmp 170], argTypes := #[25, 26, 3] }, type := 4, pos := "law.go:45", after := #[{ on := 43, ground := Ground.data }, { on := 44, ground := Ground.data }, { on := 45, ground := Ground.data }, { on := 42, ground := Ground.chain }, { on := 38, ground := Ground.guard }], guard := some (38, true) }) rfl (fun K hK => ?_) AllReadyH.nil)
  rw [if_pos (by rfl)]
  go_simp
  go_at_call 24
  refine (reval_at3 HNV.out ai HPE.out HGD.out (by have := HL.out; have := HK.out; omega) (by rw [HNV.out]; omega) HAB.out.1 (Hc.out.grown hgr4).2.2 (HBV.out.grown hgr4)).mono ?_
  rintro e wc5 ⟨rfl, gc5⟩
  have hgr5 := World.grownBy.trans hgr4 gc5
  go_wp2_with fail
  refine hK.out _ _ (HS.out _ hgr5) (fun hHeld => ?_)
  clear hK K
  try simp only [Act.put, List.setIfInBounds_toArray, List.set_cons_zero, List.set_cons_succ]
  refine wpAnyH_take (i := 47) (oi := { dst := some 172, op := Op.binOp BinOp.eql 4 (Operand.tmp 167) (Operand.tmp 171) 4, type := 4, pos := "law.go:45", after := #[{ on := 42, ground := Ground.data }, { on := 46, ground := Ground.data }, { on := 38, ground := Ground.guard }], guard := some (38, true) }) (v := ?_) rfl (by kernel_rfl) (by kernel_rfl) (by kernel_rfl) (fun _ _ _ h => h) (Or.inl ⟨by rfl, ?_⟩) (by assumption) ?_
  rotate_left 1
  · (intro W hSW; (try dsimp only at hSW); first | (go_simp; done) | (go_simp; with_reducible rfl))
  try simp only [Act.put, List.setIfInBounds_toArray, List.set_cons_zero, List.set_cons_succ]
  refine wpAnyH_take (i := 48) (oi := { dst := some 173, op := Op.pick (Operand.tmp 163) (Operand.tmp 172) (Operand.const (Value.bool false)), type := 4, pos := "law.go:45", after := #[{ on := 38, ground := Ground.data }, { on := 47, ground := Ground.data }], guard := none }) (v := ?_) rfl (by kernel_rfl) (by kernel_rfl) (by kernel_rfl) (fun _ _ _ h => h) (Or.inl ⟨by rfl, ?_⟩) (by assumption) ?_
  rotate_left 1
  · (intro W hSW; (try dsimp only at hSW); first | (go_simp; done) | (go_simp; with_reducible rfl))
  try simp only [Act.put, List.setIfInBounds_toArray, List.set_cons_zero, List.set_cons_succ]
  refine wpAnyH_take (i := 49) (oi := { dst := some 174, op := Op.move (Operand.tmp 173), type := 4, pos := "law.go:45", after := #[{ on := 48, ground := Ground.data }, { on := 46, ground := Ground.chain }], guard := none }) (v := ?_) rfl (by kernel_rfl) (by kernel_rfl) (by kernel_rfl) (fun _ _ _ h => h) (Or.inl ⟨by rfl, ?_⟩) (by assumption) ?_
  rotate_left 1
  · (intro W hSW; (try dsimp only at hSW); first | (go_simp; done) | (go_simp; with_reducible rfl))
  try simp only [Act.put, List.setIfInBounds_toArray, List.set_cons_zero, List.set_cons_succ]
  refine wpAnyH_take (i := 50) (oi := { dst := some 175, op := Op.move (Operand.tmp 3), type := 3, pos := "law.go:45", after := #[{ on := 49, ground := Ground.guard }], guard := some (49, true) }) (v := ?_) rfl (by kernel_rfl) (by kernel_rfl) (by kernel_rfl) (fun _ _ _ h => h) (Or.inl ⟨by rfl, ?_⟩) (by assumption) ?_
  rotate_left 1
  · (intro W hSW; (try dsimp only at hSW); first | (go_simp; done) | (go_simp; with_reducible rfl))
  try simp only [Act.put, List.setIfInBounds_toArray, List.set_cons_zero, List.set_cons_succ]
  refine wpAnyH_take (i := 52) (oi := { dst := some 177, op := Op.move (Operand.tmp 3), type := 3, pos := "law.go:45", after := #[{ on := 49, ground := Ground.guard }], guard := some (49, true) }) (v := ?_) rfl (by kernel_rfl) (by kernel_rfl) (by kernel_rfl) (fun _ _ _ h => h) (Or.inl ⟨by rfl, ?_⟩) (by assumption) ?_
  rotate_left 1
  · (intro W hSW; (try dsimp only at hSW); first | (go_simp; done) | (go_simp; with_reducible rfl))
  try simp only [Act.put, List.setIfInBounds_toArray, List.set_cons_zero, List.set_cons_succ]
  refine wpAnyH_ready (rs := [51]) (by kernel_rfl) (by simp) ?_
  refine (AllReadyH.cons (o := { dst := some 176, op := Op.call { callee := Callee.value (Operand.func 25), args := #[Operand.tmp 175], argTypes := #[3] }, type := 3, pos := "law.go:45", after := #[{ on := 50, ground := Ground.data }, { on := 49, ground := Ground.chain }, { on := 49, ground := Ground.guard }], guard := some (49, true) }) rfl (fun K hK => ?_) AllReadyH.nil)
  rw [if_pos (by rfl)]
  go_simp
  go_at_call 25
  refine (not_at ai HAB.out.1).mono ?_
  rintro e w9 ⟨rfl, hw9⟩
  rw [hw9]
  clear hw9 w9
  go_wp2_with fail
  refine hK.out _ _ (HS.out _ hgr5) (fun hHeld => ?_)
  clear hK K
  try simp only [Act.put, List.setIfInBounds_toArray, List.set_cons_zero, List.set_cons_succ]
  refine wpAnyH_ready (rs := [53]) (by kernel_rfl) (by simp) ?_
  refine (AllReadyH.cons (o := { dst := some 178, op := Op.call { callee := Callee.value (Operand.func 26), args := #[Operand.tmp 177], argTypes := #[3] }, type := 3, pos := "law.go:45", after := #[{ on := 52, ground := Ground.data }, { on := 51, ground := Ground.chain }, { on := 49, ground := Ground.guard }], guard := some (49, true) }) rfl (fun K hK => ?_) AllReadyH.nil)
  rw [if_pos (by rfl)]
  go_simp
  go_at_call 26
  refine (rnot_at ai HAB.out.1).mono ?_
  rintro e w9 ⟨rfl, hw9⟩
  rw [hw9]
  clear hw9 w9
  go_wp2_with fail
  refine hK.out _ _ (HS.out _ hgr5) (fun hHeld => ?_)
  clear hK K
  try simp only [Act.put, List.setIfInBounds_toArray, List.set_cons_zero, List.set_cons_succ]
  refine wpAnyH_take (i := 54) (oi := { dst := some 179, op := Op.binOp BinOp.eql 3 (Operand.tmp 176) (Operand.tmp 178) 3, type := 4, pos := "law.go:45", after := #[{ on := 51, ground := Ground.data }, { on := 53, ground := Ground.data }, { on := 49, ground := Ground.guard }], guard := some (49, true) }) (v := ?_) rfl (by kernel_rfl) (by kernel_rfl) (by kernel_rfl) (fun _ _ _ h => h) (Or.inl ⟨by rfl, ?_⟩) (by assumption) ?_
  rotate_left 1
  · (intro W hSW; (try dsimp only at hSW); first | (go_simp; done) | (go_simp; with_reducible rfl))
  try simp only [Act.put, List.setIfInBounds_toArray, List.set_cons_zero, List.set_cons_succ]
  refine wpAnyH_take (i := 55) (oi := { dst := some 180, op := Op.pick (Operand.tmp 174) (Operand.tmp 179) (Operand.const (Value.bool false)), type := 4, pos := "law.go:45", after := #[{ on := 49, ground := Ground.data }, { on := 54, ground := Ground.data }], guard := none }) (v := ?_) rfl (by kernel_rfl) (by kernel_rfl) (by kernel_rfl) (fun _ _ _ h => h) (Or.inl ⟨by rfl, ?_⟩) (by assumption) ?_
  rotate_left 1
  · (intro W hSW; (try dsimp only at hSW); first | (go_simp; done) | (go_simp; with_reducible rfl))
  try simp only [Act.put, List.setIfInBounds_toArray, List.set_cons_zero, List.set_cons_succ]
  refine wpAnyH_take (i := 56) (oi := { dst := some 12, op := Op.assign (Operand.tmp 180), type := 4, pos := "law.go:45", after := #[{ on := 55, ground := Ground.data }, { on := 53, ground := Ground.chain }, { on := 0, ground := Ground.phase }, { on := 1, ground := Ground.phase }, { on := 2, ground := Ground.phase }, { on := 3, ground := Ground.phase }, { on := 4, ground := Ground.phase }, { on := 5, ground := Ground.phase }, { on := 6, ground := Ground.phase }, { on := 7, ground := Ground.phase }, { on := 8, ground := Ground.phase }, { on := 9, ground := Ground.phase }, { on := 10, ground := Ground.phase }, { on := 11, ground := Ground.phase }, { on := 12, ground := Ground.phase }, { on := 13, ground := Ground.phase }, { on := 14, ground := Ground.phase }, { on := 15, ground := Ground.phase }, { on := 16, ground := Ground.phase }, { on := 17, ground := Ground.phase }, { on := 18, ground := Ground.phase }, { on := 19, ground := Ground.phase }, { on := 20, ground := Ground.phase }, { on := 21, ground := Ground.phase }, { on := 22, ground := Ground.phase }, { on := 23, ground := Ground.phase }, { on := 24, ground := Ground.phase }, { on := 25, ground := Ground.phase }, { on := 26, ground := Ground.phase }, { on := 27, ground := Ground.phase }, { on := 28, ground := Ground.phase }, { on := 29, ground := Ground.phase }, { on := 30, ground := Ground.phase }, { on := 31, ground := Ground.phase }, { on := 32, ground := Ground.phase }, { on := 33, ground := Ground.phase }, { on := 34, ground := Ground.phase }, { on := 35, ground := Ground.phase }, { on := 36, ground := Ground.phase }, { on := 37, ground := Ground.phase }, { on := 38, ground := Ground.phase }, { on := 39, ground := Ground.phase }, { on := 40, ground := Ground.phase }, { on := 41, ground := Ground.phase }, { on := 42, ground := Ground.phase }, { on := 43, ground := Ground.phase }, { on := 44, ground := Ground.phase }, { on := 45, ground := Ground.phase }, { on := 46, ground := Ground.phase }, { on := 47, ground := Ground.phase }, { on := 48, ground := Ground.phase }, { on := 49, ground := Ground.phase }, { on := 50, ground := Ground.phase }, { on := 51, ground := Ground.phase }, { on := 52, ground := Ground.phase }, { on := 53, ground := Ground.phase }, { on := 54, ground := Ground.phase }, { on := 55, ground := Ground.phase }], guard := none }) (v := ?_) rfl (by kernel_rfl) (by kernel_rfl) (by kernel_rfl) (fun _ _ _ h => h) (Or.inl ⟨by rfl, ?_⟩) (by assumption) ?_
  rotate_left 1
  · (intro W hSW; (try dsimp only at hSW); first | (go_simp; done) | (go_simp; with_reducible rfl))
  try simp only [Act.put, List.setIfInBounds_toArray, List.set_cons_zero, List.set_cons_succ]
  refine wpAnyH_done (by kernel_rfl) ?_ _
  have hEND := hgr5
  clear hHeld
  go_wp2_with fail
  go_ret
  exact ⟨rfl, World.grownBy.trans HG.out hEND⟩
end Go.Proofs.Ytllljcbdinckgaa
