/- MatrixPredicates is proved: for every input, the law returns true and leaves its arguments as they were (In, Some and Lone have the values that the relations' own operations give); there are no further conditions. -/
import Derived.Test.YthdhmflodiincaaCA00
import Derived.Test.YthdhmflodiincaaCA16
import Derived.Test.YthdhmflodiincaaCA22
import Derived.Deep.DeepCutAuto
import Derived.Test.YthdhmflodiincaaCA12
namespace Go.Proofs.Ythdhmflodiincaa
open Go.RowKit Go.Maps

set_option maxRecDepth 100000 in
set_option maxHeartbeats 4000000 in
theorem predicates_calls (s bt : Nat) (l : List Stp) (X Y : List Nat) (nl nx ny : Nat) (sa xa ya : Option Addr) (sc xc yc : Nat) (w : World) (hs : s < 256) (hbt : bt < 256) (hnl : l.length = nl) (hnx : X.length = nx) (hny : Y.length = ny)
    (hl : StpsW w sa sc l) (ho : ∀ s ∈ l, StpOk s) (hx : U8W w xa xc X) (hxb : ∀ z ∈ X, z < 256) (hxm : (X.length : Int) ≤ 9223372036854775807) (hy : U8W w ya yc Y) (hyb : ∀ z ∈ Y, z < 256) (hym : (Y.length : Int) ≤ 9223372036854775807) :
    Calls Try.prog 6 #[.int .u8 (s : Int), .slice sa nl sc, .slice xa nx xc, .slice ya ny yc, .int .u8 (bt : Int)] w fun e w' => e = .returned (.bool true) ∧ w.grownBy w' none := by
  have HG := Lib.hid (grown_refl w none)
  have HA := Lib.hid (fun (U : World) => atoms_calls s hs U)
  obtain ⟨n, hn⟩ : ∃ z, s % 3 + 1 = z := ⟨_, rfl⟩
  obtain ⟨k, hk⟩ : ∃ z, s / 3 % 2 + 1 = z := ⟨_, rfl⟩
  obtain ⟨j, hj⟩ : ∃ z, s / 6 % 2 + 1 = z := ⟨_, rfl⟩
  rw [hn, hk, hj] at HA
  have HNK := Lib.hid (show 1 ≤ n ∧ n ≤ 3 ∧ 1 ≤ k ∧ k ≤ 2 ∧ 1 ≤ j ∧ j ≤ 2 from by omega)
  clear hn hk hj
  have HL := Lib.hid hl
  have HX := Lib.hid hx
  have HY := Lib.hid hy
  have HSO := Lib.hid ho
  have HXB := Lib.hid (And.intro hxb hxm)
  have HYB := Lib.hid (And.intro hyb hym)
  have HLN := Lib.hid (And.intro hnl (And.intro hnx hny))
  clear hl hx hy ho hxb hxm hyb hym hnl hnx hny hs
  have HV := Lib.hid (fun (U : World) => values_calls bt hbt U)
  go_enter Try.func6, Try.ntmps6
  go_wp2_with fail
  refine (head_calls _).mono ?_
  rintro e V1 ⟨rfl, g⟩
  replace HL := Lib.hid (HL.out.grown g)
  replace HX := Lib.hid (HX.out.grown g)
  replace HY := Lib.hid (HY.out.grown g)
  replace HG := Lib.hid (World.grownBy.trans HG.out g)
  clear g
  by_cases hbig : 20 < nl
  · have f1 : decide (20 < nl) = true := decide_eq_true hbig
    have f2 : decide ((20 : Int) < (nl : Int)) = true := decide_eq_true (by omega)
    go_wp2_with fail
    go_ret
    exact ⟨rfl, HG.out⟩
  · have f1 : decide (20 < nl) = false := decide_eq_false hbig
    have f2 : decide ((20 : Int) < (nl : Int)) = false := decide_eq_false (by omega)
    obtain ⟨qb, hqb⟩ : ∃ z, buildC l = z := ⟨_, rfl⟩
    obtain ⟨g, refs⟩ := qb
    have hbu := built l (by rw [HLN.out.1]; omega)
    rw [hqb] at hbu
    have HBU := Lib.hid (show Good g ∧ g.length ≤ 61 ∧ refs.length ≤ 20 ∧ ∀ r ∈ refs, Ok g r from ⟨hbu.good, by have h1 := hbu.len; have h2 := HLN.out.1; simp only at h1; omega, by have h1 := hbu.refs; have h2 := HLN.out.1; simp only at h1; omega, hbu.ok⟩)
    have HBC := Lib.hid (rbuild_calls l sa sc V1 hqb HL.out (by rw [HLN.out.1]; omega) HSO.out)
    rw [HLN.out.1] at HBC
    clear hqb hbu hbig
    go_wp2_with fail
    clear f1 f2
    refine HBC.out.mono ?_
    rintro e V2 ⟨a0, c0, ra, rc, rfl, hr, hrr, g1⟩
    clear HBC
    replace HL := Lib.hid (HL.out.grown g1)
    replace HX := Lib.hid (HX.out.grown g1)
    replace HY := Lib.hid (HY.out.grown g1)
    replace HG := Lib.hid (World.grownBy.trans HG.out g1)
    clear g1
    have HR := Lib.hid hrr
    clear hrr
    go_upto_region 5 with fail
    have hb := CB.new hr
    have gw := World.grownBy_alloc V2 (.cells #[.slice a0 g.length c0] 30) none
    obtain ⟨V3, hV3⟩ : ∃ z, World.alloc V2 (.cells #[.slice a0 g.length c0] 30) = z := ⟨_, rfl⟩
    have hsV3 : V3.heap.size = V2.heap.size + 1 := by rw [← hV3]; simp
    rw [hV3] at gw hb ⊢
    clear hV3
    obtain ⟨bc, hbb⟩ : ∃ b, V2.heap.size = b := ⟨_, rfl⟩
    rw [hbb] at hb hsV3 ⊢
    clear hbb
    replace HL := Lib.hid (HL.out.grown gw)
    replace HX := Lib.hid (HX.out.grown gw)
    replace HY := Lib.hid (HY.out.grown gw)
    replace HR := Lib.hid (HR.out.grown gw)
    replace HG := Lib.hid (World.grownBy.trans HG.out gw)
    clear gw
    have Hc := Lib.hid hb
    clear hb
    clear hr hsV3
    have qc := Hc.out.1
    go_wp2_with fail
    clear qc
    refine (HA.out _).mono ?_
    rintro e w9 ⟨rfl, hw9⟩
    rw [hw9]
    clear hw9 w9
    have qc := Hc.out.1
    go_wp2_with fail
    clear qc
    have hm := made_calls refs n k X ra rc xa xc V3 HR.out HX.out (by have := HBU.out; omega) (by have := HXB.out.2; omega) (fun r hr => by have h1 := HBU.out.2.2.2 r hr; have h2 := HBU.out.2.1; unfold Ok at h1; omega) HXB.out.1 (by have := HNK.out; omega) HNK.out.1 (by have := HNK.out; omega) (by have := HNK.out; omega)
    rw [HLN.out.2.1] at hm
    obtain ⟨tA, htA⟩ : ∃ z, min (n ^ k) nx = z := ⟨_, rfl⟩
    rw [htA] at hm
    have hM := made_mat HBU.out.1.pos HBU.out.2.2.2 X tA
    have hR := (madeC_all refs X tA).2
    have hK := madeC_len refs X tA
    obtain ⟨A, hA⟩ : ∃ z, madeC refs X tA = z := ⟨_, rfl⟩
    rw [hA] at hm hM hR hK
    have hT : tA ≤ n ^ k := by rw [← htA]; exact Nat.min_le_left _ _
    have hT9 : n ^ k ≤ 9 := by have h1 : n ^ k ≤ 3 ^ k := Nat.pow_le_pow_left HNK.out.2.1 _; have h2 : 3 ^ k ≤ 3 ^ 2 := Nat.pow_le_pow_right (by omega) (by have := HNK.out; omega); omega
    have HMA := Lib.hid (show Mat g A ∧ A.length ≤ 9 ∧ ∀ c ∈ A, 0 ≤ c.1 ∧ c.1 < ((n ^ k : Nat) : Int) from ⟨hM, by omega, fun c hc => ⟨(hR c hc).1, by have h1 := (hR c hc).2.1; omega⟩⟩)
    clear hM hR hK hT hT9 htA hA
    refine hm.mono ?_
    rintro e V4 ⟨aA, cA, mA, rfl, hlA, hr, g1⟩
    clear hm
    replace Hc := Lib.hid (Hc.out.grown g1)
    replace HL := Lib.hid (HL.out.grown g1)
    replace HX := Lib.hid (HX.out.grown g1)
    replace HY := Lib.hid (HY.out.grown g1)
    replace HR := Lib.hid (HR.out.grown g1)
    replace HG := Lib.hid (World.grownBy.trans HG.out g1)
    clear g1
    have qc := Hc.out.1
    go_upto_region 7 with fail
    clear qc
    have hb := XB.new (k : Int) hr hlA
    have gw := World.grownBy_alloc V4 (.cells #[.int .i64 (k : Int), .slice aA mA cA] 26) none
    obtain ⟨V5, hV5⟩ : ∃ z, World.alloc V4 (.cells #[.int .i64 (k : Int), .slice aA mA cA] 26) = z := ⟨_, rfl⟩
    have hsV5 : V5.heap.size = V4.heap.size + 1 := by rw [← hV5]; simp
    rw [hV5] at gw hb ⊢
    clear hV5
    obtain ⟨ba, hbb⟩ : ∃ b, V4.heap.size = b := ⟨_, rfl⟩
    rw [hbb] at hb hsV5 ⊢
    clear hbb
    replace Hc := Lib.hid (Hc.out.grown gw)
    replace HL := Lib.hid (HL.out.grown gw)
    replace HX := Lib.hid (HX.out.grown gw)
    replace HY := Lib.hid (HY.out.grown gw)
    replace HR := Lib.hid (HR.out.grown gw)
    replace HG := Lib.hid (World.grownBy.trans HG.out gw)
    clear gw
    have Ha := Lib.hid hb
    clear hb
    clear hr hlA hsV5
    have qc := Hc.out.1
    have qa := Ha.out.1
    have ra := Ha.out.2.1
    go_wp2_with fail
    clear qc qa ra
    have hm := made_calls refs n k Y ra rc ya yc V5 HR.out HY.out (by have := HBU.out; omega) (by have := HYB.out.2; omega) (fun r hr => by have h1 := HBU.out.2.2.2 r hr; have h2 := HBU.out.2.1; unfold Ok at h1; omega) HYB.out.1 (by have := HNK.out; omega) HNK.out.1 (by have := HNK.out; omega) (by have := HNK.out; omega)
    rw [HLN.out.2.2] at hm
    obtain ⟨tB, htB⟩ : ∃ z, min (n ^ k) ny = z := ⟨_, rfl⟩
    rw [htB] at hm
    have hM := made_mat HBU.out.1.pos HBU.out.2.2.2 Y tB
    have hR := (madeC_all refs Y tB).2
    have hK := madeC_len refs Y tB
    obtain ⟨B, hB⟩ : ∃ z, madeC refs Y tB = z := ⟨_, rfl⟩
    rw [hB] at hm hM hR hK
    have hT : tB ≤ n ^ k := by rw [← htB]; exact Nat.min_le_left _ _
    have hT9 : n ^ k ≤ 9 := by have h1 : n ^ k ≤ 3 ^ k := Nat.pow_le_pow_left HNK.out.2.1 _; have h2 : 3 ^ k ≤ 3 ^ 2 := Nat.pow_le_pow_right (by omega) (by have := HNK.out; omega); omega
    have HMB := Lib.hid (show Mat g B ∧ B.length ≤ 9 ∧ ∀ c ∈ B, 0 ≤ c.1 ∧ c.1 < ((n ^ k : Nat) : Int) from ⟨hM, by omega, fun c hc => ⟨(hR c hc).1, by have h1 := (hR c hc).2.1; omega⟩⟩)
    clear hM hR hK hT hT9 htB hB
    refine hm.mono ?_
    rintro e V6 ⟨aB, cB, mB, rfl, hlB, hr, g1⟩
    clear hm
    replace Hc := Lib.hid (Hc.out.grown g1)
    replace Ha := Lib.hid (Ha.out.grown g1)
    replace HL := Lib.hid (HL.out.grown g1)
    replace HX := Lib.hid (HX.out.grown g1)
    replace HY := Lib.hid (HY.out.grown g1)
    replace HR := Lib.hid (HR.out.grown g1)
    replace HG := Lib.hid (World.grownBy.trans HG.out g1)
    clear g1
    have qc := Hc.out.1
    have qa := Ha.out.1
    have ra := Ha.out.2.1
    go_upto_region 8 with fail
    clear qc qa ra
    have hb := XB.new (k : Int) hr hlB
    have gw := World.grownBy_alloc V6 (.cells #[.int .i64 (k : Int), .slice aB mB cB] 26) none
    obtain ⟨V7, hV7⟩ : ∃ z, World.alloc V6 (.cells #[.int .i64 (k : Int), .slice aB mB cB] 26) = z := ⟨_, rfl⟩
    have hsV7 : V7.heap.size = V6.heap.size + 1 := by rw [← hV7]; simp
    rw [hV7] at gw hb ⊢
    clear hV7
    obtain ⟨bb, hbb⟩ : ∃ b, V6.heap.size = b := ⟨_, rfl⟩
    rw [hbb] at hb hsV7 ⊢
    clear hbb
    replace Hc := Lib.hid (Hc.out.grown gw)
    replace Ha := Lib.hid (Ha.out.grown gw)
    replace HL := Lib.hid (HL.out.grown gw)
    replace HX := Lib.hid (HX.out.grown gw)
    replace HY := Lib.hid (HY.out.grown gw)
    replace HR := Lib.hid (HR.out.grown gw)
    replace HG := Lib.hid (World.grownBy.trans HG.out gw)
    clear gw
    have Hb := Lib.hid hb
    clear hb
    clear hr hlB hsV7
    have qc := Hc.out.1
    have qa := Ha.out.1
    have ra := Ha.out.2.1
    have qb := Hb.out.1
    have rb := Hb.out.2.1
    go_wp2_with fail
    clear qc qa ra qb rb
    refine (HV.out _).mono ?_
    rintro e V8 ⟨av, cv, rfl, hv, g1⟩
    obtain ⟨vs, hvs⟩ : ∃ z, valsL bt = z := ⟨_, rfl⟩
    have HVL := Lib.hid (show vs.length = 8 from by rw [← hvs]; exact valsL_len bt)
    rw [hvs] at hv
    clear hvs HV
    replace Hc := Lib.hid (Hc.out.grown g1)
    replace Ha := Lib.hid (Ha.out.grown g1)
    replace Hb := Lib.hid (Hb.out.grown g1)
    replace HL := Lib.hid (HL.out.grown g1)
    replace HX := Lib.hid (HX.out.grown g1)
    replace HY := Lib.hid (HY.out.grown g1)
    replace HR := Lib.hid (HR.out.grown g1)
    replace HG := Lib.hid (World.grownBy.trans HG.out g1)
    clear g1
    have HVV := Lib.hid hv
    clear hv
    have qc := Hc.out.1
    have qa := Ha.out.1
    have ra := Ha.out.2.1
    have qb := Hb.out.1
    have rb := Hb.out.2.1
    go_wp2_with fail
    clear qc qa ra qb rb
    refine (value_at (k : Int) Ha.out.2.2.1 HVL.out HBU.out.1 (by have := HBU.out; omega) (fun c hc => (HMA.out.1.2 c hc).1) (by have h1 := HMA.out.2.1; have h2 := Ha.out.2.2.1; omega) Hc.out.2.2 Ha.out.2.2.2 HVV.out).mono ?_
    rintro e V9 ⟨aP, nP, cP, rfl, hlr, hr, g1⟩
    replace Hc := Lib.hid (Hc.out.grown g1)
    replace Ha := Lib.hid (Ha.out.grown g1)
    replace Hb := Lib.hid (Hb.out.grown g1)
    replace HL := Lib.hid (HL.out.grown g1)
    replace HX := Lib.hid (HX.out.grown g1)
    replace HY := Lib.hid (HY.out.grown g1)
    replace HR := Lib.hid (HR.out.grown g1)
    replace HVV := Lib.hid (HVV.out.grown g1)
    replace HG := Lib.hid (World.grownBy.trans HG.out g1)
    clear g1
    obtain ⟨P, hP⟩ : ∃ z, valL g vs A = z := ⟨_, rfl⟩
    rw [hP] at hlr hr
    have HEP := Lib.hid hP
    clear hP
    have qc := Hc.out.1
    have qa := Ha.out.1
    have ra := Ha.out.2.1
    have qb := Hb.out.1
    have rb := Hb.out.2.1
    go_upto_region 10 with fail
    clear qc qa ra qb rb
    have hb := YB.new (k : Int) hr hlr
    have gw := World.grownBy_alloc V9 (.cells #[.int .i64 (k : Int), .slice aP nP cP] 47) none
    obtain ⟨V10, hV10⟩ : ∃ z, World.alloc V9 (.cells #[.int .i64 (k : Int), .slice aP nP cP] 47) = z := ⟨_, rfl⟩
    have hsV10 : V10.heap.size = V9.heap.size + 1 := by rw [← hV10]; simp
    rw [hV10] at gw hb ⊢
    clear hV10
    obtain ⟨bp, hbb⟩ : ∃ b, V9.heap.size = b := ⟨_, rfl⟩
    rw [hbb] at hb hsV10 ⊢
    clear hbb
    replace Hc := Lib.hid (Hc.out.grown gw)
    replace Ha := Lib.hid (Ha.out.grown gw)
    replace Hb := Lib.hid (Hb.out.grown gw)
    replace HL := Lib.hid (HL.out.grown gw)
    replace HX := Lib.hid (HX.out.grown gw)
    replace HY := Lib.hid (HY.out.grown gw)
    replace HR := Lib.hid (HR.out.grown gw)
    replace HVV := Lib.hid (HVV.out.grown gw)
    replace HG := Lib.hid (World.grownBy.trans HG.out gw)
    clear gw
    have Hp := Lib.hid hb
    clear hb
    clear hr hlr hsV10
    have qc := Hc.out.1
    have qa := Ha.out.1
    have ra := Ha.out.2.1
    have qb := Hb.out.1
    have rb := Hb.out.2.1
    have qp := Hp.out.1
    have rp := Hp.out.2.1
    go_wp2_with fail
    clear qc qa ra qb rb qp rp
    refine (value_at (k : Int) Hb.out.2.2.1 HVL.out HBU.out.1 (by have := HBU.out; omega) (fun c hc => (HMB.out.1.2 c hc).1) (by have h1 := HMB.out.2.1; have h2 := Hb.out.2.2.1; omega) Hc.out.2.2 Hb.out.2.2.2 HVV.out).mono ?_
    rintro e V11 ⟨aQ, nQ, cQ, rfl, hlr, hr, g1⟩
    replace Hc := Lib.hid (Hc.out.grown g1)
    replace Ha := Lib.hid (Ha.out.grown g1)
    replace Hb := Lib.hid (Hb.out.grown g1)
    replace Hp := Lib.hid (Hp.out.grown g1)
    replace HL := Lib.hid (HL.out.grown g1)
    replace HX := Lib.hid (HX.out.grown g1)
    replace HY := Lib.hid (HY.out.grown g1)
    replace HR := Lib.hid (HR.out.grown g1)
    replace HVV := Lib.hid (HVV.out.grown g1)
    replace HG := Lib.hid (World.grownBy.trans HG.out g1)
    clear g1
    obtain ⟨Q, hQ⟩ : ∃ z, valL g vs B = z := ⟨_, rfl⟩
    rw [hQ] at hlr hr
    have HEQ := Lib.hid hQ
    clear hQ
    have qc := Hc.out.1
    have qa := Ha.out.1
    have ra := Ha.out.2.1
    have qb := Hb.out.1
    have rb := Hb.out.2.1
    have qp := Hp.out.1
    have rp := Hp.out.2.1
    go_upto_region 11 with fail
    clear qc qa ra qb rb qp rp
    have hb := YB.new (k : Int) hr hlr
    have gw := World.grownBy_alloc V11 (.cells #[.int .i64 (k : Int), .slice aQ nQ cQ] 47) none
    obtain ⟨V12, hV12⟩ : ∃ z, World.alloc V11 (.cells #[.int .i64 (k : Int), .slice aQ nQ cQ] 47) = z := ⟨_, rfl⟩
    have hsV12 : V12.heap.size = V11.heap.size + 1 := by rw [← hV12]; simp
    rw [hV12] at gw hb ⊢
    clear hV12
    obtain ⟨bq, hbb⟩ : ∃ b, V11.heap.size = b := ⟨_, rfl⟩
    rw [hbb] at hb hsV12 ⊢
    clear hbb
    replace Hc := Lib.hid (Hc.out.grown gw)
    replace Ha := Lib.hid (Ha.out.grown gw)
    replace Hb := Lib.hid (Hb.out.grown gw)
    replace Hp := Lib.hid (Hp.out.grown gw)
    replace HL := Lib.hid (HL.out.grown gw)
    replace HX := Lib.hid (HX.out.grown gw)
    replace HY := Lib.hid (HY.out.grown gw)
    replace HR := Lib.hid (HR.out.grown gw)
    replace HVV := Lib.hid (HVV.out.grown gw)
    replace HG := Lib.hid (World.grownBy.trans HG.out gw)
    clear gw
    have Hq := Lib.hid hb
    clear hb
    clear hr hlr hsV12
    obtain ⟨q1, e1⟩ : ∃ z, (inP A B).run g = z := ⟨_, rfl⟩
    obtain ⟨u1, r1⟩ := q1
    have s1 := Pr.safe_run _ (safe_inP HBU.out.1 HMA.out.1 HMB.out.1 (by have := HBU.out; have := HMA.out.2.1; have := HMB.out.2.1; omega))
    rw [e1] at s1
    have t1 := in_tie HBU.out.1 HMA.out.1 HMB.out.1 vs
    rw [HEP.out, HEQ.out] at t1
    have HU1 := Lib.hid (show Good u1 ∧ u1.length ≤ 97 ∧ g <+: u1 ∧ Ok u1 r1 ∧ valC u1 vs r1 = inB P Q from ⟨s1.1.good, by have h1 := s1.1.len; have := HBU.out; have := HMA.out.2.1; have := HMB.out.2.1; simp only at h1; omega, s1.1.pre, s1.2.1, (s1.2.2 vs).trans t1⟩)
    have HC1 := Lib.hid e1
    clear s1 t1 e1
    obtain ⟨q2, e2⟩ : ∃ z, (foldP orF (A.map (·.2)) 1).run u1 = z := ⟨_, rfl⟩
    obtain ⟨u2, r2⟩ := q2
    have hokA : ∀ c ∈ A, Ok g c.2 := fun c hc => (HMA.out.1.2 c hc).1
    have hokA1 : ∀ r ∈ A.map (·.2), Ok u1 r := fun r hr => by obtain ⟨c, hc, rfl⟩ := List.mem_map.1 hr; exact (hokA c hc).grow HU1.out.2.2.1
    have hlm : (A.map (·.2)).length = A.length := List.length_map ..
    have s2 := Pr.safe_run _ (safe_someP HU1.out.1 hokA1 (by have := HU1.out; have := HMA.out.2.1; omega))
    rw [show (someP (A.map (·.2))).run u1 = (u2, r2) from e2] at s2
    have t2 := some_tie (gs := u1) vs A
    rw [valL_grow HU1.out.2.2.1 hokA vs, HEP.out] at t2
    have HU2 := Lib.hid (show Good u2 ∧ u2.length ≤ 106 ∧ u1 <+: u2 ∧ Ok u2 r2 ∧ valC u2 vs r2 = decide (0 < P.length) from ⟨s2.1.good, by have h1 := s2.1.len; have := HU1.out; have := HMA.out.2.1; simp only at h1; omega, s2.1.pre, s2.2.1, (s2.2.2 vs).trans t2⟩)
    have HC2 := Lib.hid e2
    clear s2 t2 e2
    obtain ⟨q3, e3⟩ : ∃ z, (loneP (A.map (·.2))).run u2 = z := ⟨_, rfl⟩
    obtain ⟨u3, r3⟩ := q3
    have hp2 := HU1.out.2.2.1.trans HU2.out.2.2.1
    have hokA2 : ∀ r ∈ A.map (·.2), Ok u2 r := fun r hr => by obtain ⟨c, hc, rfl⟩ := List.mem_map.1 hr; exact (hokA c hc).grow hp2
    have s3 := Pr.safe_run _ (safe_loneP HU2.out.1 hokA2 (by have := HU2.out; have := HMA.out.2.1; omega))
    rw [e3] at s3
    have t3 := lone_tie (gs := u2) vs A
    rw [valL_grow hp2 hokA vs, HEP.out] at t3
    have HU3 := Lib.hid (show Good u3 ∧ u3.length ≤ 133 ∧ u2 <+: u3 ∧ Ok u3 r3 ∧ valC u3 vs r3 = decide (P.length ≤ 1) from ⟨s3.1.good, by have h1 := s3.1.len; have := HU2.out; have := HMA.out.2.1; simp only at h1; omega, s3.1.pre, s3.2.1, by have h1 := s3.2.2 vs; simp only at h1; rw [h1, t3]⟩)
    have HC3 := Lib.hid e3
    have HEV := Lib.hid (show (Ok u3 r1 ∧ valC u3 vs r1 = inB P Q) ∧ (Ok u3 r2 ∧ valC u3 vs r2 = decide (0 < P.length)) from ⟨⟨HU1.out.2.2.2.1.grow (HU2.out.2.2.1.trans HU3.out.2.2.1), (val_grow (HU2.out.2.2.1.trans HU3.out.2.2.1) HU1.out.2.2.2.1).trans HU1.out.2.2.2.2⟩, ⟨HU2.out.2.2.2.1.grow HU3.out.2.2.1, (val_grow HU3.out.2.2.1 HU2.out.2.2.2.1).trans HU2.out.2.2.2.2⟩⟩)
    have HOK := Lib.hid (And.intro hokA (And.intro (fun x (hx : x ∈ A) => hokA1 _ (List.mem_map.2 ⟨x, hx, rfl⟩)) (fun x (hx : x ∈ A) => hokA2 _ (List.mem_map.2 ⟨x, hx, rfl⟩))))
    clear s3 t3 e3 hokA hokA1 hokA2 hlm hp2
    have qc := Hc.out.1
    have qa := Ha.out.1
    have ra := Ha.out.2.1
    have qb := Hb.out.1
    have rb := Hb.out.2.1
    have qp := Hp.out.1
    have rp := Hp.out.2.1
    have qq := Hq.out.1
    have rq := Hq.out.2.1
    go_wp2_with fail
    clear qc qa ra qb rb qp rp qq rq
    refine (min_calls g A B (k : Int) (k : Int) u1 r1 _ _ _ _ _ _ _ _ _ HC1.out Hc.out.2.2 Ha.out.2.2.2 Ha.out.2.2.1 Hb.out.2.2.2 Hb.out.2.2.1 HBU.out.1 HMA.out.1 HMB.out.1 (by have := HBU.out; have := HMA.out.2.1; have := HMB.out.2.1; have := Ha.out.2.2.1; have := Hb.out.2.2.1; omega) (by have := HMA.out.2.1; have := Ha.out.2.2.1; omega) (by have := HMB.out.2.1; have := Hb.out.2.2.1; omega)).mono ?_
    rintro e V13 ⟨ad, cd, rfl, hr, g1⟩
    replace Hc := Lib.hid (Hc.out.grown g1)
    replace Ha := Lib.hid (Ha.out.grown g1)
    replace Hb := Lib.hid (Hb.out.grown g1)
    replace Hp := Lib.hid (Hp.out.grown g1)
    replace Hq := Lib.hid (Hq.out.grown g1)
    replace HL := Lib.hid (HL.out.grown g1)
    replace HX := Lib.hid (HX.out.grown g1)
    replace HY := Lib.hid (HY.out.grown g1)
    replace HR := Lib.hid (HR.out.grown g1)
    replace HVV := Lib.hid (HVV.out.grown g1)
    replace HG := Lib.hid (World.grownBy.trans HG.out g1)
    clear g1
    have qc := Hc.out.1
    have qa := Ha.out.1
    have ra := Ha.out.2.1
    have qb := Hb.out.1
    have rb := Hb.out.2.1
    have qp := Hp.out.1
    have rp := Hp.out.2.1
    have qq := Hq.out.1
    have rq := Hq.out.2.1
    go_upto_region 12 with fail
    clear qc qa ra qb rb qp rp qq rq
    have hb := CB.new hr
    have gw := World.grownBy_alloc V13 (.cells #[.slice ad u1.length cd] 30) none
    obtain ⟨V14, hV14⟩ : ∃ z, World.alloc V13 (.cells #[.slice ad u1.length cd] 30) = z := ⟨_, rfl⟩
    have hsV14 : V14.heap.size = V13.heap.size + 1 := by rw [← hV14]; simp
    rw [hV14] at gw hb ⊢
    clear hV14
    obtain ⟨bd, hbb⟩ : ∃ b, V13.heap.size = b := ⟨_, rfl⟩
    rw [hbb] at hb hsV14 ⊢
    clear hbb
    replace Hc := Lib.hid (Hc.out.grown gw)
    replace Ha := Lib.hid (Ha.out.grown gw)
    replace Hb := Lib.hid (Hb.out.grown gw)
    replace Hp := Lib.hid (Hp.out.grown gw)
    replace Hq := Lib.hid (Hq.out.grown gw)
    replace HL := Lib.hid (HL.out.grown gw)
    replace HX := Lib.hid (HX.out.grown gw)
    replace HY := Lib.hid (HY.out.grown gw)
    replace HR := Lib.hid (HR.out.grown gw)
    replace HVV := Lib.hid (HVV.out.grown gw)
    replace HG := Lib.hid (World.grownBy.trans HG.out gw)
    clear gw
    have Hd := Lib.hid hb
    clear hb
    clear hr hsV14
    have qc := Hc.out.1
    have qa := Ha.out.1
    have ra := Ha.out.2.1
    have qb := Hb.out.1
    have rb := Hb.out.2.1
    have qp := Hp.out.1
    have rp := Hp.out.2.1
    have qq := Hq.out.1
    have rq := Hq.out.2.1
    have qd := Hd.out.1
    go_wp2_with fail
    clear qc qa ra qb rb qp rp qq rq qd
    refine (msome_calls u1 A (k : Int) u2 r2 _ _ _ _ _ _ HC2.out Hd.out.2.2 Ha.out.2.2.2 Ha.out.2.2.1 HU1.out.1 HOK.out.2.1 (by have := HU1.out; have := HMA.out.2.1; have := Ha.out.2.2.1; omega) (by have := HMA.out.2.1; have := Ha.out.2.2.1; omega)).mono ?_
    rintro e V15 ⟨ae, ce, rfl, hr, g1⟩
    replace Hc := Lib.hid (Hc.out.grown g1)
    replace Ha := Lib.hid (Ha.out.grown g1)
    replace Hb := Lib.hid (Hb.out.grown g1)
    replace Hp := Lib.hid (Hp.out.grown g1)
    replace Hq := Lib.hid (Hq.out.grown g1)
    replace Hd := Lib.hid (Hd.out.grown g1)
    replace HL := Lib.hid (HL.out.grown g1)
    replace HX := Lib.hid (HX.out.grown g1)
    replace HY := Lib.hid (HY.out.grown g1)
    replace HR := Lib.hid (HR.out.grown g1)
    replace HVV := Lib.hid (HVV.out.grown g1)
    replace HG := Lib.hid (World.grownBy.trans HG.out g1)
    clear g1
    have qc := Hc.out.1
    have qa := Ha.out.1
    have ra := Ha.out.2.1
    have qb := Hb.out.1
    have rb := Hb.out.2.1
    have qp := Hp.out.1
    have rp := Hp.out.2.1
    have qq := Hq.out.1
    have rq := Hq.out.2.1
    have qd := Hd.out.1
    go_upto_region 13 with fail
    clear qc qa ra qb rb qp rp qq rq qd
    have hb := CB.new hr
    have gw := World.grownBy_alloc V15 (.cells #[.slice ae u2.length ce] 30) none
    obtain ⟨V16, hV16⟩ : ∃ z, World.alloc V15 (.cells #[.slice ae u2.length ce] 30) = z := ⟨_, rfl⟩
    have hsV16 : V16.heap.size = V15.heap.size + 1 := by rw [← hV16]; simp
    rw [hV16] at gw hb ⊢
    clear hV16
    obtain ⟨be, hbb⟩ : ∃ b, V15.heap.size = b := ⟨_, rfl⟩
    rw [hbb] at hb hsV16 ⊢
    clear hbb
    replace Hc := Lib.hid (Hc.out.grown gw)
    replace Ha := Lib.hid (Ha.out.grown gw)
    replace Hb := Lib.hid (Hb.out.grown gw)
    replace Hp := Lib.hid (Hp.out.grown gw)
    replace Hq := Lib.hid (Hq.out.grown gw)
    replace Hd := Lib.hid (Hd.out.grown gw)
    replace HL := Lib.hid (HL.out.grown gw)
    replace HX := Lib.hid (HX.out.grown gw)
    replace HY := Lib.hid (HY.out.grown gw)
    replace HR := Lib.hid (HR.out.grown gw)
    replace HVV := Lib.hid (HVV.out.grown gw)
    replace HG := Lib.hid (World.grownBy.trans HG.out gw)
    clear gw
    have He := Lib.hid hb
    clear hb
    clear hr hsV16
    have qc := Hc.out.1
    have qa := Ha.out.1
    have ra := Ha.out.2.1
    have qb := Hb.out.1
    have rb := Hb.out.2.1
    have qp := Hp.out.1
    have rp := Hp.out.2.1
    have qq := Hq.out.1
    have rq := Hq.out.2.1
    have qd := Hd.out.1
    have qe := He.out.1
    go_wp2_with fail
    clear qc qa ra qb rb qp rp qq rq qd qe
    refine (mlone_calls u2 A (k : Int) u3 r3 _ _ _ _ _ _ HC3.out He.out.2.2 Ha.out.2.2.2 Ha.out.2.2.1 HU2.out.1 HOK.out.2.2 (by have := HU2.out; have := HMA.out.2.1; have := Ha.out.2.2.1; omega) (by have := HMA.out.2.1; have := Ha.out.2.2.1; omega)).mono ?_
    rintro e V17 ⟨af, cf, rfl, hr, g1⟩
    replace Hc := Lib.hid (Hc.out.grown g1)
    replace Ha := Lib.hid (Ha.out.grown g1)
    replace Hb := Lib.hid (Hb.out.grown g1)
    replace Hp := Lib.hid (Hp.out.grown g1)
    replace Hq := Lib.hid (Hq.out.grown g1)
    replace Hd := Lib.hid (Hd.out.grown g1)
    replace He := Lib.hid (He.out.grown g1)
    replace HL := Lib.hid (HL.out.grown g1)
    replace HX := Lib.hid (HX.out.grown g1)
    replace HY := Lib.hid (HY.out.grown g1)
    replace HR := Lib.hid (HR.out.grown g1)
    replace HVV := Lib.hid (HVV.out.grown g1)
    replace HG := Lib.hid (World.grownBy.trans HG.out g1)
    clear g1
    have qc := Hc.out.1
    have qa := Ha.out.1
    have ra := Ha.out.2.1
    have qb := Hb.out.1
    have rb := Hb.out.2.1
    have qp := Hp.out.1
    have rp := Hp.out.2.1
    have qq := Hq.out.1
    have rq := Hq.out.2.1
    have qd := Hd.out.1
    have qe := He.out.1
    go_upto_region 14 with fail
    clear qc qa ra qb rb qp rp qq rq qd qe
    have hb := CB.new hr
    have gw := World.grownBy_alloc V17 (.cells #[.slice af u3.length cf] 30) none
    obtain ⟨V18, hV18⟩ : ∃ z, World.alloc V17 (.cells #[.slice af u3.length cf] 30) = z := ⟨_, rfl⟩
    have hsV18 : V18.heap.size = V17.heap.size + 1 := by rw [← hV18]; simp
    rw [hV18] at gw hb ⊢
    clear hV18
    obtain ⟨bf, hbb⟩ : ∃ b, V17.heap.size = b := ⟨_, rfl⟩
    rw [hbb] at hb hsV18 ⊢
    clear hbb
    replace Hc := Lib.hid (Hc.out.grown gw)
    replace Ha := Lib.hid (Ha.out.grown gw)
    replace Hb := Lib.hid (Hb.out.grown gw)
    replace Hp := Lib.hid (Hp.out.grown gw)
    replace Hq := Lib.hid (Hq.out.grown gw)
    replace Hd := Lib.hid (Hd.out.grown gw)
    replace He := Lib.hid (He.out.grown gw)
    replace HL := Lib.hid (HL.out.grown gw)
    replace HX := Lib.hid (HX.out.grown gw)
    replace HY := Lib.hid (HY.out.grown gw)
    replace HR := Lib.hid (HR.out.grown gw)
    replace HVV := Lib.hid (HVV.out.grown gw)
    replace HG := Lib.hid (World.grownBy.trans HG.out gw)
    clear gw
    have Hf := Lib.hid hb
    clear hb
    clear hr hsV18
    have hnP : P.length = nP := Hp.out.2.2.1
    have hnQ : Q.length = nQ := Hq.out.2.2.1
    obtain ⟨B1, hB1⟩ : ∃ z, inB P Q = z := ⟨_, rfl⟩
    obtain ⟨B2, hB2⟩ : ∃ z, decide (0 < nP) = z := ⟨_, rfl⟩
    obtain ⟨B3, hB3⟩ : ∃ z, decide (nP ≤ 1) = z := ⟨_, rfl⟩
    have HB := Lib.hid (show inB P Q = B1 ∧ decide (0 < P.length) = B2 ∧ decide (P.length ≤ 1) = B3 from ⟨hB1, by rw [hnP]; exact hB2, by rw [hnP]; exact hB3⟩)
    have b2 : decide ((0 : Int) < (nP : Int)) = B2 := by rw [← hB2]; exact decide_eq_decide.2 (by omega)
    have b3 : decide ((nP : Int) ≤ 1) = B3 := by rw [← hB3]; exact decide_eq_decide.2 (by omega)
    clear hnP hnQ hB1
    have HPL := Lib.hid (show P.length ≤ 9 ∧ Q.length ≤ 9 from ⟨by rw [← HEP.out]; exact Nat.le_trans (by unfold valL; rw [List.length_map]; exact List.length_filter_le _ _) HMA.out.2.1, by rw [← HEQ.out]; exact Nat.le_trans (by unfold valL; rw [List.length_map]; exact List.length_filter_le _ _) HMB.out.2.1⟩)
    have HIN := Lib.hid (fun (U : World) (hU : V18.grownBy U none) => in_calls (k : Int) (k : Int) P Q _ _ _ _ U (Hp.out.grown hU).2.2.2 (Hq.out.grown hU).2.2.2 (by have := HPL.out; omega) (by have := HPL.out; omega))
    rw [Hp.out.2.2.1, Hq.out.2.2.1, HB.out.1] at HIN
    have qc := Hc.out.1
    have qa := Ha.out.1
    have ra := Ha.out.2.1
    have qb := Hb.out.1
    have rb := Hb.out.2.1
    have qp := Hp.out.1
    have rp := Hp.out.2.1
    have qq := Hq.out.1
    have rq := Hq.out.2.1
    have qd := Hd.out.1
    have qe := He.out.1
    have qf := Hf.out.1
    go_wp2_with fail
    clear qc qa ra qb rb qp rp qq rq qd qe qf
    have HS := Lib.hid (fun (Wh : World) (hWh : V18.grownBy Wh none) => (⟨hWh, hWh.cell Hf.out.1 (by simp), hWh.cell Hp.out.1 (by simp), hWh.cell Hp.out.2.1 (by simp), hWh.cell Hq.out.1 (by simp), hWh.cell Hq.out.2.1 (by simp)⟩ : (fun Wh : World => V18.grownBy Wh none ∧ Wh.cell? ⟨bf, 0, none⟩ = some (.slice af u3.length cf) ∧ Wh.cell? ⟨bp, 0, none⟩ = some (.int .i64 (k : Int)) ∧ Wh.cell? ⟨bp, 1, none⟩ = some (.slice aP nP cP) ∧ Wh.cell? ⟨bq, 0, none⟩ = some (.int .i64 (k : Int)) ∧ Wh.cell? ⟨bq, 1, none⟩ = some (.slice aQ nQ cQ)) Wh))
    have hdr : V18.grownBy V18.drew none := ⟨rfl, rfl, rfl, Nat.le_refl _, fun _ _ _ => rfl⟩
    refine wp_region_held_drew (S := (fun Wh : World => V18.grownBy Wh none ∧ Wh.cell? ⟨bf, 0, none⟩ = some (.slice af u3.length cf) ∧ Wh.cell? ⟨bp, 0, none⟩ = some (.int .i64 (k : Int)) ∧ Wh.cell? ⟨bp, 1, none⟩ = some (.slice aP nP cP) ∧ Wh.cell? ⟨bq, 0, none⟩ = some (.int .i64 (k : Int)) ∧ Wh.cell? ⟨bq, 1, none⟩ = some (.slice aQ nQ cQ))) (by kernel_rfl) (HS.out _ hdr) (fun hHeld => ?_)
    refine tk 0 ({ dst := some 83, op := Op.move (Operand.tmp 11), type := 4, pos := "law.go:202", after := #[], guard := none }) ?_ rfl (by kernel_rfl) (fun _ _ _ h => h) (by rfl) ?_ hHeld ?_
    rotate_left 1
    · (intro W hSW; (try dsimp only at hSW); first | (go_simp; done) | (go_simp; with_reducible rfl))
    try simp only [Act.put, List.setIfInBounds_toArray, List.set_cons_zero, List.set_cons_succ]
    refine tk 1 ({ dst := some 84, op := Op.move (Operand.tmp 83), type := 4, pos := "law.go:202", after := #[{ on := 0, ground := Ground.data }], guard := none }) ?_ rfl (by kernel_rfl) (fun _ _ _ h => h) (by rfl) ?_ hHeld ?_
    rotate_left 1
    · (intro W hSW; (try dsimp only at hSW); first | (go_simp; done) | (go_simp; with_reducible rfl))
    try simp only [Act.put, List.setIfInBounds_toArray, List.set_cons_zero, List.set_cons_succ]
    refine tk 2 ({ dst := some 85, op := Op.load 30 (Operand.tmp 26), type := 30, pos := "law.go:202", after := #[{ on := 1, ground := Ground.guard }], guard := some (1, true) }) ?_ rfl (by kernel_rfl) (fun _ _ _ h => h) (by rfl) ?_ hHeld ?_
    rotate_left 1
    · (intro W hSW; (try dsimp only at hSW); first | (go_simp; done) | (go_simp; with_reducible rfl))
    try simp only [Act.put, List.setIfInBounds_toArray, List.set_cons_zero, List.set_cons_succ]
    refine tk 3 ({ dst := some 86, op := Op.move (Operand.tmp 19), type := 49, pos := "law.go:202", after := #[{ on := 1, ground := Ground.guard }], guard := some (1, true) }) ?_ rfl (by kernel_rfl) (fun _ _ _ h => h) (by rfl) ?_ hHeld ?_
    rotate_left 1
    · (intro W hSW; (try dsimp only at hSW); first | (go_simp; done) | (go_simp; with_reducible rfl))
    try simp only [Act.put, List.setIfInBounds_toArray, List.set_cons_zero, List.set_cons_succ]
    refine tk 4 ({ dst := some 87, op := Op.move (Operand.tmp 23), type := 3, pos := "law.go:202", after := #[{ on := 1, ground := Ground.guard }], guard := some (1, true) }) ?_ rfl (by kernel_rfl) (fun _ _ _ h => h) (by rfl) ?_ hHeld ?_
    rotate_left 1
    · (intro W hSW; (try dsimp only at hSW); first | (go_simp; done) | (go_simp; with_reducible rfl))
    try simp only [Act.put, List.setIfInBounds_toArray, List.set_cons_zero, List.set_cons_succ]
    refine tk 6 ({ dst := some 89, op := Op.load 47 (Operand.tmp 20), type := 47, pos := "law.go:202", after := #[{ on := 1, ground := Ground.guard }], guard := some (1, true) }) ?_ rfl (by kernel_rfl) (fun _ _ _ h => h) (by rfl) ?_ hHeld ?_
    rotate_left 1
    · (intro W hSW; (try dsimp only at hSW); first | (go_simp; done) | (go_simp; with_reducible rfl))
    try simp only [Act.put, List.setIfInBounds_toArray, List.set_cons_zero, List.set_cons_succ]
    refine tk 7 ({ dst := some 90, op := Op.load 47 (Operand.tmp 21), type := 47, pos := "law.go:202", after := #[{ on := 1, ground := Ground.guard }], guard := some (1, true) }) ?_ rfl (by kernel_rfl) (fun _ _ _ h => h) (by rfl) ?_ hHeld ?_
    rotate_left 1
    · (intro W hSW; (try dsimp only at hSW); first | (go_simp; done) | (go_simp; with_reducible rfl))
    try simp only [Act.put, List.setIfInBounds_toArray, List.set_cons_zero, List.set_cons_succ]
    refine wpAnyH_ready (rs := [5]) (by kernel_rfl) (by simp) ?_
    refine (AllReadyH.cons (o := { dst := some 88, op := Op.call { callee := Callee.value (Operand.func 50), args := #[Operand.tmp 85, Operand.tmp 86, Operand.tmp 87], argTypes := #[30, 49, 3] }, type := 4, pos := "law.go:202", after := #[{ on := 2, ground := Ground.data }, { on := 3, ground := Ground.data }, { on := 4, ground := Ground.data }, { on := 1, ground := Ground.chain }, { on := 1, ground := Ground.guard }], guard := some (1, true) }) rfl (fun K hK => ?_) AllReadyH.nil)
    rw [if_pos (by rfl)]
    go_simp
    go_at_call 50
    refine (reval_at HVL.out HU3.out.1 (by have := HU3.out; omega) HEV.out.1.1 (HEV.out.1.2.trans HB.out.1) (Hf.out.grown hdr).2.2 (HVV.out.grown hdr)).mono ?_
    rintro e wc1 ⟨rfl, gc1⟩
    have hgr1 := World.grownBy.trans hdr gc1
    go_wp2_with fail
    refine hK.out _ _ (HS.out _ hgr1) (fun hHeld => ?_)
    clear hK K
    try simp only [Act.put, List.setIfInBounds_toArray, List.set_cons_zero, List.set_cons_succ]
    refine wpAnyH_ready (rs := [8]) (by kernel_rfl) (by simp) ?_
    refine (AllReadyH.cons (o := { dst := some 91, op := Op.call { callee := Callee.value (Operand.func 51), args := #[Operand.tmp 89, Operand.tmp 90], argTypes := #[47, 47] }, type := 4, pos := "law.go:202", after := #[{ on := 6, ground := Ground.data }, { on := 7, ground := Ground.data }, { on := 5, ground := Ground.chain }, { on := 1, ground := Ground.guard }], guard := some (1, true) }) rfl (fun K hK => ?_) AllReadyH.nil)
    rw [if_pos (by rfl)]
    go_simp
    go_at_call 51
    refine (HIN.out _ hgr1).mono ?_
    rintro e wc2 ⟨rfl, gc2⟩
    have hgr2 := World.grownBy.trans hgr1 gc2
    go_wp2_with fail
    refine hK.out _ _ (HS.out _ hgr2) (fun hHeld => ?_)
    clear hK K
    try simp only [Act.put, List.setIfInBounds_toArray, List.set_cons_zero, List.set_cons_succ]
    refine tk 9 ({ dst := some 92, op := Op.binOp BinOp.eql 4 (Operand.tmp 88) (Operand.tmp 91) 4, type := 4, pos := "law.go:202", after := #[{ on := 5, ground := Ground.data }, { on := 8, ground := Ground.data }, { on := 1, ground := Ground.guard }], guard := some (1, true) }) ?_ rfl (by kernel_rfl) (fun _ _ _ h => h) (by rfl) ?_ hHeld ?_
    rotate_left 1
    · (intro W hSW; (try dsimp only at hSW); first | (go_simp; done) | (go_simp; with_reducible rfl))
    try simp only [Act.put, List.setIfInBounds_toArray, List.set_cons_zero, List.set_cons_succ]
    refine tk 10 ({ dst := some 93, op := Op.pick (Operand.tmp 84) (Operand.tmp 92) (Operand.const (Value.bool false)), type := 4, pos := "law.go:202", after := #[{ on := 1, ground := Ground.data }, { on := 9, ground := Ground.data }], guard := none }) ?_ rfl (by kernel_rfl) (fun _ _ _ h => h) (by rfl) ?_ hHeld ?_
    rotate_left 1
    · (intro W hSW; (try dsimp only at hSW); first | (go_simp; done) | (go_simp; with_reducible rfl))
    try simp only [Act.put, List.setIfInBounds_toArray, List.set_cons_zero, List.set_cons_succ]
    refine tk 11 ({ dst := some 94, op := Op.move (Operand.tmp 93), type := 4, pos := "law.go:202", after := #[{ on := 10, ground := Ground.data }, { on := 8, ground := Ground.chain }], guard := none }) ?_ rfl (by kernel_rfl) (fun _ _ _ h => h) (by rfl) ?_ hHeld ?_
    rotate_left 1
    · (intro W hSW; (try dsimp only at hSW); first | (go_simp; done) | (go_simp; with_reducible rfl))
    try simp only [Act.put, List.setIfInBounds_toArray, List.set_cons_zero, List.set_cons_succ]
    refine tk 12 ({ dst := some 95, op := Op.load 30 (Operand.tmp 26), type := 30, pos := "law.go:202", after := #[{ on := 11, ground := Ground.guard }], guard := some (11, true) }) ?_ rfl (by kernel_rfl) (fun _ _ _ h => h) (by rfl) ?_ hHeld ?_
    rotate_left 1
    · (intro W hSW; (try dsimp only at hSW); first | (go_simp; done) | (go_simp; with_reducible rfl))
    try simp only [Act.put, List.setIfInBounds_toArray, List.set_cons_zero, List.set_cons_succ]
    refine tk 13 ({ dst := some 96, op := Op.move (Operand.tmp 19), type := 49, pos := "law.go:202", after := #[{ on := 11, ground := Ground.guard }], guard := some (11, true) }) ?_ rfl (by kernel_rfl) (fun _ _ _ h => h) (by rfl) ?_ hHeld ?_
    rotate_left 1
    · (intro W hSW; (try dsimp only at hSW); first | (go_simp; done) | (go_simp; with_reducible rfl))
    try simp only [Act.put, List.setIfInBounds_toArray, List.set_cons_zero, List.set_cons_succ]
    refine tk 14 ({ dst := some 97, op := Op.move (Operand.tmp 25), type := 3, pos := "law.go:202", after := #[{ on := 11, ground := Ground.guard }], guard := some (11, true) }) ?_ rfl (by kernel_rfl) (fun _ _ _ h => h) (by rfl) ?_ hHeld ?_
    rotate_left 1
    · (intro W hSW; (try dsimp only at hSW); first | (go_simp; done) | (go_simp; with_reducible rfl))
    try simp only [Act.put, List.setIfInBounds_toArray, List.set_cons_zero, List.set_cons_succ]
    refine tk 16 ({ dst := some 99, op := Op.fieldAddr 47 (Operand.tmp 20) 1, type := 0, pos := "law.go:202", after := #[{ on := 11, ground := Ground.guard }], guard := some (11, true) }) ?_ rfl (by kernel_rfl) (fun _ _ _ h => h) (by rfl) ?_ hHeld ?_
    rotate_left 1
    · (intro W hSW; (try dsimp only at hSW); first | (go_simp; done) | (go_simp; with_reducible rfl))
    try simp only [Act.put, List.setIfInBounds_toArray, List.set_cons_zero, List.set_cons_succ]
    refine tk 17 ({ dst := some 100, op := Op.load 31 (Operand.tmp 99), type := 31, pos := "law.go:202", after := #[{ on := 16, ground := Ground.data }, { on := 11, ground := Ground.guard }], guard := some (11, true) }) ?_ rfl (by kernel_rfl) (fun _ _ _ h => h) (by rfl) ?_ hHeld ?_
    rotate_left 1
    · (intro W hSW; (try dsimp only at hSW); first | (go_simp; done) | (go_simp; with_reducible rfl))
    try simp only [Act.put, List.setIfInBounds_toArray, List.set_cons_zero, List.set_cons_succ]
    refine tk 18 ({ dst := some 101, op := Op.call { callee := Callee.builtin Builtin.len, args := #[Operand.tmp 100], argTypes := #[31] }, type := 3, pos := "law.go:202", after := #[{ on := 17, ground := Ground.data }, { on := 11, ground := Ground.guard }], guard := some (11, true) }) ?_ rfl (by kernel_rfl) (fun _ _ _ h => h) (by rfl) ?_ hHeld ?_
    rotate_left 1
    · (intro W hSW; (try dsimp only at hSW); first | (go_simp; done) | (go_simp; with_reducible rfl))
    try simp only [Act.put, List.setIfInBounds_toArray, List.set_cons_zero, List.set_cons_succ]
    refine tk 19 ({ dst := some 102, op := Op.binOp BinOp.gtr 3 (Operand.tmp 101) (Operand.const (Value.int IntKind.i64 0)) 3, type := 4, pos := "law.go:202", after := #[{ on := 18, ground := Ground.data }, { on := 11, ground := Ground.guard }], guard := some (11, true) }) ?_ rfl (by kernel_rfl) (fun _ _ _ h => h) (by rfl) ?_ hHeld ?_
    rotate_left 1
    · (intro W hSW; (try dsimp only at hSW); first | (go_simp; done) | (go_simp; with_reducible rfl))
    try simp only [Act.put, List.setIfInBounds_toArray, List.set_cons_zero, List.set_cons_succ]
    refine wpAnyH_ready (rs := [15]) (by kernel_rfl) (by simp) ?_
    refine (AllReadyH.cons (o := { dst := some 98, op := Op.call { callee := Callee.value (Operand.func 50), args := #[Operand.tmp 95, Operand.tmp 96, Operand.tmp 97], argTypes := #[30, 49, 3] }, type := 4, pos := "law.go:202", after := #[{ on := 12, ground := Ground.data }, { on := 13, ground := Ground.data }, { on := 14, ground := Ground.data }, { on := 11, ground := Ground.chain }, { on := 11, ground := Ground.guard }], guard := some (11, true) }) rfl (fun K hK => ?_) AllReadyH.nil)
    rw [if_pos (by rfl)]
    go_simp
    go_at_call 50
    refine (reval_at HVL.out HU3.out.1 (by have := HU3.out; omega) HEV.out.2.1 (HEV.out.2.2.trans HB.out.2.1) (Hf.out.grown hgr2).2.2 (HVV.out.grown hgr2)).mono ?_
    rintro e wc3 ⟨rfl, gc3⟩
    have hgr3 := World.grownBy.trans hgr2 gc3
    go_wp2_with fail
    refine hK.out _ _ (HS.out _ hgr3) (fun hHeld => ?_)
    clear hK K
    try simp only [Act.put, List.setIfInBounds_toArray, List.set_cons_zero, List.set_cons_succ]
    refine tk 20 ({ dst := some 103, op := Op.binOp BinOp.eql 4 (Operand.tmp 98) (Operand.tmp 102) 4, type := 4, pos := "law.go:202", after := #[{ on := 15, ground := Ground.data }, { on := 19, ground := Ground.data }, { on := 11, ground := Ground.guard }], guard := some (11, true) }) ?_ rfl (by kernel_rfl) (fun _ _ _ h => h) (by rfl) ?_ hHeld ?_
    rotate_left 1
    · (intro W hSW; (try dsimp only at hSW); first | (go_simp; done) | (go_simp; with_reducible rfl))
    try simp only [Act.put, List.setIfInBounds_toArray, List.set_cons_zero, List.set_cons_succ]
    refine tk 21 ({ dst := some 104, op := Op.pick (Operand.tmp 94) (Operand.tmp 103) (Operand.const (Value.bool false)), type := 4, pos := "law.go:202", after := #[{ on := 11, ground := Ground.data }, { on := 20, ground := Ground.data }], guard := none }) ?_ rfl (by kernel_rfl) (fun _ _ _ h => h) (by rfl) ?_ hHeld ?_
    rotate_left 1
    · (intro W hSW; (try dsimp only at hSW); first | (go_simp; done) | (go_simp; with_reducible rfl))
    try simp only [Act.put, List.setIfInBounds_toArray, List.set_cons_zero, List.set_cons_succ]
    refine tk 22 ({ dst := some 105, op := Op.move (Operand.tmp 104), type := 4, pos := "law.go:202", after := #[{ on := 21, ground := Ground.data }, { on := 15, ground := Ground.chain }], guard := none }) ?_ rfl (by kernel_rfl) (fun _ _ _ h => h) (by rfl) ?_ hHeld ?_
    rotate_left 1
    · (intro W hSW; (try dsimp only at hSW); first | (go_simp; done) | (go_simp; with_reducible rfl))
    try simp only [Act.put, List.setIfInBounds_toArray, List.set_cons_zero, List.set_cons_succ]
    refine tk 23 ({ dst := some 106, op := Op.load 30 (Operand.tmp 26), type := 30, pos := "law.go:202", after := #[{ on := 22, ground := Ground.guard }], guard := some (22, true) }) ?_ rfl (by kernel_rfl) (fun _ _ _ h => h) (by rfl) ?_ hHeld ?_
    rotate_left 1
    · (intro W hSW; (try dsimp only at hSW); first | (go_simp; done) | (go_simp; with_reducible rfl))
    try simp only [Act.put, List.setIfInBounds_toArray, List.set_cons_zero, List.set_cons_succ]
    refine tk 24 ({ dst := some 107, op := Op.move (Operand.tmp 19), type := 49, pos := "law.go:202", after := #[{ on := 22, ground := Ground.guard }], guard := some (22, true) }) ?_ rfl (by kernel_rfl) (fun _ _ _ h => h) (by rfl) ?_ hHeld ?_
    rotate_left 1
    · (intro W hSW; (try dsimp only at hSW); first | (go_simp; done) | (go_simp; with_reducible rfl))
    try simp only [Act.put, List.setIfInBounds_toArray, List.set_cons_zero, List.set_cons_succ]
    refine tk 25 ({ dst := some 108, op := Op.move (Operand.tmp 27), type := 3, pos := "law.go:202", after := #[{ on := 22, ground := Ground.guard }], guard := some (22, true) }) ?_ rfl (by kernel_rfl) (fun _ _ _ h => h) (by rfl) ?_ hHeld ?_
    rotate_left 1
    · (intro W hSW; (try dsimp only at hSW); first | (go_simp; done) | (go_simp; with_reducible rfl))
    try simp only [Act.put, List.setIfInBounds_toArray, List.set_cons_zero, List.set_cons_succ]
    refine tk 27 ({ dst := some 110, op := Op.fieldAddr 47 (Operand.tmp 20) 1, type := 0, pos := "law.go:202", after := #[{ on := 22, ground := Ground.guard }], guard := some (22, true) }) ?_ rfl (by kernel_rfl) (fun _ _ _ h => h) (by rfl) ?_ hHeld ?_
    rotate_left 1
    · (intro W hSW; (try dsimp only at hSW); first | (go_simp; done) | (go_simp; with_reducible rfl))
    try simp only [Act.put, List.setIfInBounds_toArray, List.set_cons_zero, List.set_cons_succ]
    refine tk 28 ({ dst := some 111, op := Op.load 31 (Operand.tmp 110), type := 31, pos := "law.go:202", after := #[{ on := 27, ground := Ground.data }, { on := 22, ground := Ground.guard }], guard := some (22, true) }) ?_ rfl (by kernel_rfl) (fun _ _ _ h => h) (by rfl) ?_ hHeld ?_
    rotate_left 1
    · (intro W hSW; (try dsimp only at hSW); first | (go_simp; done) | (go_simp; with_reducible rfl))
    try simp only [Act.put, List.setIfInBounds_toArray, List.set_cons_zero, List.set_cons_succ]
    refine tk 29 ({ dst := some 112, op := Op.call { callee := Callee.builtin Builtin.len, args := #[Operand.tmp 111], argTypes := #[31] }, type := 3, pos := "law.go:202", after := #[{ on := 28, ground := Ground.data }, { on := 22, ground := Ground.guard }], guard := some (22, true) }) ?_ rfl (by kernel_rfl) (fun _ _ _ h => h) (by rfl) ?_ hHeld ?_
    rotate_left 1
    · (intro W hSW; (try dsimp only at hSW); first | (go_simp; done) | (go_simp; with_reducible rfl))
    try simp only [Act.put, List.setIfInBounds_toArray, List.set_cons_zero, List.set_cons_succ]
    refine tk 30 ({ dst := some 113, op := Op.binOp BinOp.leq 3 (Operand.tmp 112) (Operand.const (Value.int IntKind.i64 1)) 3, type := 4, pos := "law.go:202", after := #[{ on := 29, ground := Ground.data }, { on := 22, ground := Ground.guard }], guard := some (22, true) }) ?_ rfl (by kernel_rfl) (fun _ _ _ h => h) (by rfl) ?_ hHeld ?_
    rotate_left 1
    · (intro W hSW; (try dsimp only at hSW); first | (go_simp; done) | (go_simp; with_reducible rfl))
    try simp only [Act.put, List.setIfInBounds_toArray, List.set_cons_zero, List.set_cons_succ]
    refine wpAnyH_ready (rs := [26]) (by kernel_rfl) (by simp) ?_
    refine (AllReadyH.cons (o := { dst := some 109, op := Op.call { callee := Callee.value (Operand.func 50), args := #[Operand.tmp 106, Operand.tmp 107, Operand.tmp 108], argTypes := #[30, 49, 3] }, type := 4, pos := "law.go:202", after := #[{ on := 23, ground := Ground.data }, { on := 24, ground := Ground.data }, { on := 25, ground := Ground.data }, { on := 22, ground := Ground.chain }, { on := 22, ground := Ground.guard }], guard := some (22, true) }) rfl (fun K hK => ?_) AllReadyH.nil)
    rw [if_pos (by rfl)]
    go_simp
    go_at_call 50
    refine (reval_at HVL.out HU3.out.1 (by have := HU3.out; omega) HU3.out.2.2.2.1 (HU3.out.2.2.2.2.trans HB.out.2.2) (Hf.out.grown hgr3).2.2 (HVV.out.grown hgr3)).mono ?_
    rintro e wc4 ⟨rfl, gc4⟩
    have hgr4 := World.grownBy.trans hgr3 gc4
    go_wp2_with fail
    refine hK.out _ _ (HS.out _ hgr4) (fun hHeld => ?_)
    clear hK K
    try simp only [Act.put, List.setIfInBounds_toArray, List.set_cons_zero, List.set_cons_succ]
    refine tk 31 ({ dst := some 114, op := Op.binOp BinOp.eql 4 (Operand.tmp 109) (Operand.tmp 113) 4, type := 4, pos := "law.go:202", after := #[{ on := 26, ground := Ground.data }, { on := 30, ground := Ground.data }, { on := 22, ground := Ground.guard }], guard := some (22, true) }) ?_ rfl (by kernel_rfl) (fun _ _ _ h => h) (by rfl) ?_ hHeld ?_
    rotate_left 1
    · (intro W hSW; (try dsimp only at hSW); first | (go_simp; done) | (go_simp; with_reducible rfl))
    try simp only [Act.put, List.setIfInBounds_toArray, List.set_cons_zero, List.set_cons_succ]
    refine tk 32 ({ dst := some 115, op := Op.pick (Operand.tmp 105) (Operand.tmp 114) (Operand.const (Value.bool false)), type := 4, pos := "law.go:202", after := #[{ on := 22, ground := Ground.data }, { on := 31, ground := Ground.data }], guard := none }) ?_ rfl (by kernel_rfl) (fun _ _ _ h => h) (by rfl) ?_ hHeld ?_
    rotate_left 1
    · (intro W hSW; (try dsimp only at hSW); first | (go_simp; done) | (go_simp; with_reducible rfl))
    try simp only [Act.put, List.setIfInBounds_toArray, List.set_cons_zero, List.set_cons_succ]
    refine tk 33 ({ dst := some 10, op := Op.assign (Operand.tmp 115), type := 4, pos := "law.go:202", after := #[{ on := 32, ground := Ground.data }, { on := 26, ground := Ground.chain }, { on := 0, ground := Ground.phase }, { on := 1, ground := Ground.phase }, { on := 2, ground := Ground.phase }, { on := 3, ground := Ground.phase }, { on := 4, ground := Ground.phase }, { on := 5, ground := Ground.phase }, { on := 6, ground := Ground.phase }, { on := 7, ground := Ground.phase }, { on := 8, ground := Ground.phase }, { on := 9, ground := Ground.phase }, { on := 10, ground := Ground.phase }, { on := 11, ground := Ground.phase }, { on := 12, ground := Ground.phase }, { on := 13, ground := Ground.phase }, { on := 14, ground := Ground.phase }, { on := 15, ground := Ground.phase }, { on := 16, ground := Ground.phase }, { on := 17, ground := Ground.phase }, { on := 18, ground := Ground.phase }, { on := 19, ground := Ground.phase }, { on := 20, ground := Ground.phase }, { on := 21, ground := Ground.phase }, { on := 22, ground := Ground.phase }, { on := 23, ground := Ground.phase }, { on := 24, ground := Ground.phase }, { on := 25, ground := Ground.phase }, { on := 26, ground := Ground.phase }, { on := 27, ground := Ground.phase }, { on := 28, ground := Ground.phase }, { on := 29, ground := Ground.phase }, { on := 30, ground := Ground.phase }, { on := 31, ground := Ground.phase }, { on := 32, ground := Ground.phase }], guard := none }) ?_ rfl (by kernel_rfl) (fun _ _ _ h => h) (by rfl) ?_ hHeld ?_
    rotate_left 1
    · (intro W hSW; (try dsimp only at hSW); first | (go_simp; done) | (go_simp; with_reducible rfl))
    try simp only [Act.put, List.setIfInBounds_toArray, List.set_cons_zero, List.set_cons_succ]
    refine wpAnyH_done (by kernel_rfl) ?_ _
    have hEND := hgr4
    clear hHeld
    go_wp2_with fail
    go_ret
    exact ⟨rfl, World.grownBy.trans HG.out hEND⟩
end Go.Proofs.Ythdhmflodiincaa

namespace Go.Proofs.Ythdhmflodiincaa
open Go.ChangeShapes Go.WideShapes Go.ChangeAt Go.WideMaps Go.WideElems Go.RowKit

set_option maxRecDepth 100000 in
theorem matrixPredicates_lifted (os : Os) (started : os.Started) (H : Type) (enc : TypeId × Value → H) :
    ReturnsInHanded {} Try.checked os 6 .any (Rows.matrixPredicatesSpec.pre6 enc Try.prog Try.f6 [] false) (Rows.matrixPredicatesSpec.post enc Try.prog Try.f6 false true false false) := by
  refine returnsInHanded_of_change (C := Try.checked) own started (by kernel_rfl) Try.func6
    (ChangeSpec.witness6 (enc := enc) (C := Try.checked) false ⟨#[], #[.int .u8 0, .slice none 0 0, .slice none 0 0, .slice none 0 0, .int .u8 0], []⟩ 8 (by kernel_rfl) (by kernel_rfl) (by kernel_rfl) (by kernel_rfl)) ?_
  intro W base args ds gs before hval0 hW _ _
  have hval : ∀ (j : Nat) t v, Try.f6.params[j]? = some t → args[j]? = some v → Value.okWide Try.prog W .any base t v := hval0
  have hW' := hW
  obtain ⟨p, q, hA0, hV, rfl, _, _⟩ := hW
  have hA : DataW.TrodAll enc Try.prog W 0 (fun _ => true) true Try.f6.params.toList args.toList ds p := hA0
  rw [Try.params6] at hA hval
  have hpl : ∀ x ∈ p, x.block < W.heap.size := fun x hx => hW'.lt x (by simp [hx])
  have hA2 := hA
  obtain ⟨v0, v1, v2, v3, v4, d0, d1, d2, d3, d4, p0, p1, p2, p3, p4, rfl, rfl, rfl, h0, h1, h2, h3, h4⟩ := trodAll_five13 hA
  obtain ⟨rfl, rfl⟩ := trodVars_none hV
  obtain ⟨z0, rfl, hz0⟩ := open_u8 (hval 0 5 v0 rfl rfl) h0
  obtain ⟨l1, sa1, sc1, rfl, hs1, ho1, hm1⟩ := open_stps (hval 1 22 v1 rfl rfl) h1
  obtain ⟨l2, sa2, sc2, rfl, hs2, ho2, hm2⟩ := open_u8s (hval 2 23 v2 rfl rfl) h2
  obtain ⟨l3, sa3, sc3, rfl, hs3, ho3, hm3⟩ := open_u8s (hval 3 23 v3 rfl rfl) h3
  obtain ⟨z4, rfl, hz4⟩ := open_u8 (hval 4 5 v4 rfl rfl) h4
  refine (predicates_calls z0 z4 l1 l2 l3 _ _ _ sa1 sa2 sa3 sc1 sc2 sc3 W hz0 hz4 rfl rfl rfl hs1 ho1 hs2 ho2 hm2 hs3 ho3 hm3).mono fun e W' ⟨he, hw⟩ => ?_
  subst he
  have hbl := below_of hw
  exact ⟨_, rfl, _, _, _, [], _, [], hW', trodAll_mk1 (shut_bool Try.underlying4 _), trodAll_below hbl (by decide +kernel) hA2 hpl, rfl, hbl.frame _, fun h => by cases h⟩

theorem matrixPredicates_holds : Rows.MatrixPredicatesSaid :=
  OpenClaim.holds_of_wide 6 Try.f6 rfl rfl rfl rfl rfl rfl rfl ⟨rfl, rfl, rfl, rfl, rfl⟩ rfl rfl rfl rfl rfl (by kernel_rfl) Try.func6 (by kernel_rfl)
    (of_decide_eq_true (by kernel_rfl)) (by unfold Func.isWrapper; rw [if_neg (of_decide_eq_false (by kernel_rfl))]; exact ⟨rfl, rfl⟩)
    (fun os started H enc _ => matrixPredicates_lifted os started H enc)
end Go.Proofs.Ythdhmflodiincaa
