/- ClosureIdempotent is proved: for every input, the law returns true and leaves its arguments as they were (the closure of a closure, and that of the transposed matrix, have the values asked); there are no further conditions. -/
import Derived.Test.YthdhmflodiincaaCC20
import Derived.Test.YthdhmflodiincaaCC23
import Derived.Test.YthdhmflodiincaaCC24
import Derived.Test.YthdhmflodiincaaCC26
import Derived.Deep.DeepCutAuto
import Derived.Test.YthdhmflodiincaaCC13
set_option maxRecDepth 100000
set_option maxHeartbeats 8000000
namespace Go.Proofs.Ythdhmflodiincaa
open Go.RowKit Go.Maps

theorem roundC3 {n : Nat} (hn : n ≤ 3) : roundC n ≤ 72 := by
  have h : ∀ n, n < 4 → roundC n ≤ 72 := by decide
  exact h n (by omega)
theorem value15_at {g : List Gt} {vs : List Bool} {m : List Cl} {C : List Int} {na nC : Nat} {xa ma va : Option Addr} {xc mc vc : Nat} {w : World} (ar : Int) (hC : valL g vs m = C) (hnC : C.length = nC) (hna : m.length = na) (hv8 : vs.length = 8) (hG : Good g) (hl : g.length ≤ 1000) (hok : ∀ c ∈ m, Ok g c.2) (hn : na ≤ 1000) (h : GatesW w xa xc g) (hm : CellsW w ma mc m) (hv : BoolsW w va vc vs) :
    Calls Try.prog 34 #[.agg #[.slice xa g.length xc], .agg #[.int .i64 ar, .slice ma na mc], .slice va 8 vc] w fun e w' => ∃ b d, e = .returned (.agg #[.int .i64 ar, .slice b nC d]) ∧ IntsW w' b d C ∧ w.grownBy w' none := by
  refine (value_at ar hna hv8 hG hl hok hn h hm hv).mono fun e w' he => ?_
  obtain ⟨b, nv, d, rfl, hl2, hi, hg⟩ := he
  rw [hC] at hl2 hi
  exact ⟨b, d, by rw [← hl2, hnC], hi, hg⟩
theorem idem_calls (s bt : Nat) (l : List Stp) (X : List Nat) (nl nx : Nat) (sa xa : Option Addr) (sc xc : Nat) (w : World) (hs : s < 256) (hbt : bt < 256) (hnl : l.length = nl) (hnx : X.length = nx)
    (hl : StpsW w sa sc l) (ho : ∀ s ∈ l, StpOk s) (hx : U8W w xa xc X) (hxb : ∀ z ∈ X, z < 256) (hxm : (X.length : Int) ≤ 9223372036854775807) :
    Calls Try.prog 11 #[.int .u8 (s : Int), .slice sa nl sc, .slice xa nx xc, .int .u8 (bt : Int)] w fun e w' => e = .returned (.bool true) ∧ w.grownBy w' none := by
  have HG := Lib.hid (grown_refl w none)
  obtain ⟨s3, hs3⟩ : ∃ z, s % 3 = z := ⟨_, rfl⟩
  obtain ⟨n, hn⟩ : ∃ z, s3 % 4 + 1 = z := ⟨_, rfl⟩
  have HNK := Lib.hid (show 1 ≤ n ∧ n ≤ 4 ∧ s3 < 256 ∧ s3 % 4 + 1 = n ∧ n ≤ 3 from by omega)
  have HM3 := Lib.hid (show (s : Int) % 3 = (s3 : Int) ∧ 0 ≤ (s : Int) ∧ (s : Int) < 256 from by omega)
  clear hs3
  clear hn
  have HL := Lib.hid hl
  have HX := Lib.hid hx
  have HSO := Lib.hid ho
  have HXB := Lib.hid (And.intro hxb hxm)
  have HLN := Lib.hid (And.intro hnl hnx)
  clear hl hx ho hxb hxm hnl hnx hs
  have HV := Lib.hid (fun (U : World) => values15_calls bt hbt U)
  go_enter Try.func11, Try.ntmps11
  go_wp2_with fail
  refine (head15_calls _).mono ?_
  rintro e V1 ⟨rfl, g⟩
  replace HL := Lib.hid (HL.out.grown g)
  replace HX := Lib.hid (HX.out.grown g)
  replace HG := Lib.hid (World.grownBy.trans HG.out g)
  clear g
  by_cases hbig : 20 < nl
  · have f1 : decide (20 < nl) = true := decide_eq_true hbig
    have f2 : decide ((20 : Int) < (nl : Int)) = true := decide_eq_true (by omega)
    go_wp2_with fail
    go_ret
    exact ⟨rfl, HG.out⟩
  have f1 : decide (20 < nl) = false := decide_eq_false hbig
  have f2 : decide ((20 : Int) < (nl : Int)) = false := decide_eq_false (by omega)
  obtain ⟨qb, hqb⟩ : ∃ z, buildC l = z := ⟨_, rfl⟩
  obtain ⟨g, refs⟩ := qb
  have hbu := built l (by rw [HLN.out.1]; omega)
  rw [hqb] at hbu
  have HBU := Lib.hid (show Good g ∧ g.length ≤ 61 ∧ refs.length ≤ 20 ∧ ∀ r ∈ refs, Ok g r from ⟨hbu.good, by have h1 := hbu.len; have h2 := HLN.out.1; simp only at h1; omega, by have h1 := hbu.refs; have h2 := HLN.out.1; simp only at h1; omega, hbu.ok⟩)
  obtain ⟨t, ht⟩ : ∃ z, min (n ^ 2) nx = z := ⟨_, rfl⟩
  have hT : t ≤ n ^ 2 := by rw [← ht]; exact Nat.min_le_left _ _
  have hM := made_mat HBU.out.1.pos HBU.out.2.2.2 X t
  have hR := (madeC_all refs X t).2
  obtain ⟨A, hA⟩ : ∃ z, madeC refs X t = z := ⟨_, rfl⟩
  rw [hA] at hM hR
  have HMA := Lib.hid (show Sq n g A from ⟨hM, fun c hc => ⟨(hR c hc).1, by have h1 := (hR c hc).2.1; have h3 : (t : Int) ≤ ((n ^ 2 : Nat) : Int) := Int.ofNat_le.2 hT; rw [Nat.pow_two, Int.natCast_mul] at h3; exact Int.lt_of_lt_of_le h1 h3⟩⟩)
  have HBC := Lib.hid (fun (U : World) (hU : w.grownBy U none) (h1 : StpsW U sa sc l) (h2 : U8W U xa xc X) => made15_calls s3 n l X g refs A nl nx g.length sa xa sc xc U HNK.out.2.2.1 HNK.out.2.2.2.1 HLN.out.1 HLN.out.2 rfl (by omega) h1 HSO.out h2 HXB.out.1 (by have := HXB.out.2; omega) hqb (by rw [ht]; exact hA))
  have hrc := roundC3 HNK.out.2.2.2.2
  have HRC := Lib.hid (show g.length + roundC n * 2 ≤ 440 ∧ g.length + roundC n * 2 + roundC n * 2 ≤ 440 from by have := HBU.out.2.1; omega)
  clear hqb hbu hbig hM hR hT ht hA hrc
  have hm3 := HM3.out.1
  have hm0 := HM3.out.2
  go_wp2_with fail
  clear hm3 hm0
  clear f1 f2
  refine (HBC.out _ HG.out HL.out HX.out).mono ?_
  rintro e V2 ⟨a0, c0, aA, mA, cA, rfl, hlA, hr, hm, g1⟩
  clear HBC HL HX
  replace HG := Lib.hid (World.grownBy.trans HG.out g1)
  clear g1
  go_upto_region 5 with fail
  have h1 := CB.new hr
  have gw := World.grownBy_alloc V2 (.cells #[.slice a0 g.length c0] 30) none
  obtain ⟨V3, hU⟩ : ∃ z, World.alloc V2 (.cells #[.slice a0 g.length c0] 30) = z := ⟨_, rfl⟩
  have hsU : V3.heap.size = V2.heap.size + 1 := by rw [← hU]; simp
  rw [hU] at gw h1 ⊢
  clear hU
  obtain ⟨bc, hbb⟩ : ∃ b, V2.heap.size = b := ⟨_, rfl⟩
  rw [hbb] at h1 hsU ⊢
  clear hbb
  replace hm := hm.grown gw
  replace HG := Lib.hid (World.grownBy.trans HG.out gw)
  clear gw
  have hb := XB.new (2 : Int) hm hlA
  have gw := World.grownBy_alloc V3 (.cells #[.int .i64 2, .slice aA mA cA] 26) none
  obtain ⟨V4, hU⟩ : ∃ z, World.alloc V3 (.cells #[.int .i64 2, .slice aA mA cA] 26) = z := ⟨_, rfl⟩
  rw [hU] at gw hb ⊢
  clear hU
  rw [hsU] at hb
  clear hsU
  obtain ⟨ba, hbb⟩ : ∃ b, bc + 1 = b := ⟨_, rfl⟩
  rw [hbb] at hb ⊢
  clear hbb
  replace h1 := h1.grown gw
  replace HG := Lib.hid (World.grownBy.trans HG.out gw)
  clear gw
  have Hc := Lib.hid h1
  clear h1
  have Ha := Lib.hid hb
  clear hb
  clear hr hm hlA
  have qc := Hc.out.1
  have qa := Ha.out.1
  have ra := Ha.out.2.1
  go_wp2_with fail
  clear qc qa ra
  refine (HV.out _).mono ?_
  rintro e V5 ⟨av, cv, rfl, hv, g1⟩
  obtain ⟨vs, hvs⟩ : ∃ z, valsL bt = z := ⟨_, rfl⟩
  have HVL := Lib.hid (show vs.length = 8 from by rw [← hvs]; exact valsL_len bt)
  rw [hvs] at hv
  clear hvs HV
  replace Hc := Lib.hid (Hc.out.grown g1)
  replace Ha := Lib.hid (Ha.out.grown g1)
  replace HG := Lib.hid (World.grownBy.trans HG.out g1)
  clear g1
  have HVV := Lib.hid hv
  clear hv
  have hpp := val_pairs HMA.out vs
  have q1 := (show valL (smP n g A).1 vs (smP n g A).2 = uniq (closS n (valL g vs A)) from smP_val HBU.out.1 HMA.out HNK.out.1 HNK.out.2.1 (by have := HBU.out; omega) vs)
  have o1 := smP_ok HBU.out.1 HMA.out HNK.out.1 HNK.out.2.1 (by have := HBU.out; omega)
  obtain ⟨qd, hqd⟩ : ∃ z, smP n g A = z := ⟨_, rfl⟩
  obtain ⟨gd, md⟩ := qd
  have hcd := smaller_calls V5 n g A a0 aA c0 cA g.length mA rfl Ha.out.2.2.1 Hc.out.2.2 Ha.out.2.2.2 HBU.out.1 HMA.out HNK.out.1 HNK.out.2.1 HRC.out.1
  rw [hqd] at q1 o1 hcd
  simp only at q1 o1 hcd
  have hp2 := clos_pairs hpp
  have hi2 := clos_idem hpp
  have ht2 := clos_turn hpp
  obtain ⟨C, hC⟩ : ∃ z, uniq (closS n (valL g vs A)) = z := ⟨_, rfl⟩
  rw [hC] at q1 hp2 hi2 ht2
  have hC16 : C.length ≤ 2000 := by
    have h1 := runM_len n n (valL g vs A)
    have h2 : n * (n * n) ≤ 4 * 16 := Nat.mul_le_mul HNK.out.2.1 (Nat.mul_le_mul HNK.out.2.1 HNK.out.2.1)
    have h3 : (uniq (closS n (valL g vs A))).length ≤ (closS n (valL g vs A)).length := ofTo_len
    have h4 : (valL g vs A).length ≤ 16 := by have h5 := HMA.out.len; have : n * n ≤ 4 * 4 := Nat.mul_le_mul HNK.out.2.1 HNK.out.2.1; unfold valL; rw [List.length_map]; exact Nat.le_trans (List.length_filter_le _ _) (by omega)
    rw [hC] at h3
    unfold closS at h3
    omega
  have hCx : ∀ x ∈ C, 0 ≤ x ∧ x ≤ 2000 := fun x hx => by
    obtain ⟨u, v, hu, hv, rfl⟩ := hp2 x hx
    have h1 : u * n + v ≤ 3 * 4 + 3 := by have h2 : u * n ≤ 3 * 4 := Nat.mul_le_mul (by have := HNK.out; omega) HNK.out.2.1; have := HNK.out; omega
    omega
  have HCX := Lib.hid hCx
  clear hCx
  have Kd := Lib.hid (show Good gd ∧ gd.length ≤ 205 ∧ gd.length + roundC n * 2 ≤ 440 ∧ Sq n gd md ∧ md.length ≤ 16 ∧ valL gd vs md = C from ⟨o1.1, by have h1 := o1.2.2.1; have h2 := HRC.out; have h3 := roundC3 HNK.out.2.2.2.2; have := HBU.out; omega, by have h1 := o1.2.2.1; have h2 := HRC.out; omega, o1.2.2.2.1, by have h1 := o1.2.2.2.1.len; have : n * n ≤ 4 * 4 := Nat.mul_le_mul HNK.out.2.1 HNK.out.2.1; omega, q1⟩)
  have HC1 := Lib.hid hcd
  clear q1 o1 hcd hqd
  have HI2 := Lib.hid hi2
  have HT2 := Lib.hid ht2
  have HCL := Lib.hid hC16
  clear hpp hp2 hi2 ht2 hC hC16
  have qc := Hc.out.1
  have qa := Ha.out.1
  have ra := Ha.out.2.1
  go_wp2_with fail
  clear qc qa ra
  refine (HC1.out).mono ?_
  rintro e V6 ⟨ad, cd, ae, ne, ce, rfl, hn, hr, hm, g1⟩
  replace Hc := Lib.hid (Hc.out.grown g1)
  replace Ha := Lib.hid (Ha.out.grown g1)
  replace HVV := Lib.hid (HVV.out.grown g1)
  replace HG := Lib.hid (World.grownBy.trans HG.out g1)
  clear g1
  have qc := Hc.out.1
  have qa := Ha.out.1
  have ra := Ha.out.2.1
  go_upto_region 7 with fail
  clear qc qa ra
  have h1 := CB.new hr
  have gw := World.grownBy_alloc V6 (.cells #[.slice ad gd.length cd] 30) none
  obtain ⟨V7, hU⟩ : ∃ z, World.alloc V6 (.cells #[.slice ad gd.length cd] 30) = z := ⟨_, rfl⟩
  have hsU : V7.heap.size = V6.heap.size + 1 := by rw [← hU]; simp
  rw [hU] at gw h1 ⊢
  clear hU
  obtain ⟨bd, hbb⟩ : ∃ b, V6.heap.size = b := ⟨_, rfl⟩
  rw [hbb] at h1 hsU ⊢
  clear hbb
  replace hm := hm.grown gw
  replace Hc := Lib.hid (Hc.out.grown gw)
  replace Ha := Lib.hid (Ha.out.grown gw)
  replace HVV := Lib.hid (HVV.out.grown gw)
  replace HG := Lib.hid (World.grownBy.trans HG.out gw)
  clear gw
  have hb := XB.new (2 : Int) hm hn
  have gw := World.grownBy_alloc V7 (.cells #[.int .i64 2, .slice ae ne ce] 26) none
  obtain ⟨V8, hU⟩ : ∃ z, World.alloc V7 (.cells #[.int .i64 2, .slice ae ne ce] 26) = z := ⟨_, rfl⟩
  rw [hU] at gw hb ⊢
  clear hU
  rw [hsU] at hb
  clear hsU
  obtain ⟨be, hbb⟩ : ∃ b, bd + 1 = b := ⟨_, rfl⟩
  rw [hbb] at hb ⊢
  clear hbb
  replace h1 := h1.grown gw
  replace Hc := Lib.hid (Hc.out.grown gw)
  replace Ha := Lib.hid (Ha.out.grown gw)
  replace HVV := Lib.hid (HVV.out.grown gw)
  replace HG := Lib.hid (World.grownBy.trans HG.out gw)
  clear gw
  have Hd := Lib.hid h1
  clear h1
  have He := Lib.hid hb
  clear hb
  clear hr hm hn
  clear HC1
  have q1 := (show valL (smP n gd md).1 vs (smP n gd md).2 = uniq (closS n (valL gd vs md)) from smP_val Kd.out.1 Kd.out.2.2.2.1 HNK.out.1 HNK.out.2.1 (by have := Kd.out; omega) vs)
  rw [Kd.out.2.2.2.2.2, HI2.out] at q1
  have o1 := smP_ok Kd.out.1 Kd.out.2.2.2.1 HNK.out.1 HNK.out.2.1 (by have := Kd.out; omega)
  obtain ⟨qe, hqe⟩ : ∃ z, smP n gd md = z := ⟨_, rfl⟩
  obtain ⟨ge, me⟩ := qe
  have hcd := smaller_calls V8 n gd md ad ae cd ce gd.length ne rfl He.out.2.2.1 Hd.out.2.2 He.out.2.2.2 Kd.out.1 Kd.out.2.2.2.1 HNK.out.1 HNK.out.2.1 Kd.out.2.2.1
  rw [hqe] at q1 o1 hcd
  simp only at q1 o1 hcd
  have Ke := Lib.hid (show Good ge ∧ ge.length ≤ 900 ∧ Sq n ge me ∧ me.length ≤ 16 ∧ valL ge vs me = C from ⟨o1.1, by have h1 := o1.2.2.1; have h2 := Kd.out.2.2.1; omega, o1.2.2.2.1, by have h1 := o1.2.2.2.1.len; have : n * n ≤ 4 * 4 := Nat.mul_le_mul HNK.out.2.1 HNK.out.2.1; omega, q1⟩)
  have HC1 := Lib.hid hcd
  clear q1 o1 hcd hqe
  have qc := Hc.out.1
  have qa := Ha.out.1
  have ra := Ha.out.2.1
  have qd := Hd.out.1
  have qe := He.out.1
  have re := He.out.2.1
  go_wp2_with fail
  clear qc qa ra qd qe re
  refine (HC1.out).mono ?_
  rintro e V9 ⟨ai, ci, aj, nj, cj, rfl, hn, hr, hm, g1⟩
  replace Hc := Lib.hid (Hc.out.grown g1)
  replace Ha := Lib.hid (Ha.out.grown g1)
  replace Hd := Lib.hid (Hd.out.grown g1)
  replace He := Lib.hid (He.out.grown g1)
  replace HVV := Lib.hid (HVV.out.grown g1)
  replace HG := Lib.hid (World.grownBy.trans HG.out g1)
  clear g1
  have qc := Hc.out.1
  have qa := Ha.out.1
  have ra := Ha.out.2.1
  have qd := Hd.out.1
  have qe := He.out.1
  have re := He.out.2.1
  go_upto_region 8 with fail
  clear qc qa ra qd qe re
  have h1 := CB.new hr
  have gw := World.grownBy_alloc V9 (.cells #[.slice ai ge.length ci] 30) none
  obtain ⟨V10, hU⟩ : ∃ z, World.alloc V9 (.cells #[.slice ai ge.length ci] 30) = z := ⟨_, rfl⟩
  have hsU : V10.heap.size = V9.heap.size + 1 := by rw [← hU]; simp
  rw [hU] at gw h1 ⊢
  clear hU
  obtain ⟨bi, hbb⟩ : ∃ b, V9.heap.size = b := ⟨_, rfl⟩
  rw [hbb] at h1 hsU ⊢
  clear hbb
  replace hm := hm.grown gw
  replace Hc := Lib.hid (Hc.out.grown gw)
  replace Ha := Lib.hid (Ha.out.grown gw)
  replace Hd := Lib.hid (Hd.out.grown gw)
  replace He := Lib.hid (He.out.grown gw)
  replace HVV := Lib.hid (HVV.out.grown gw)
  replace HG := Lib.hid (World.grownBy.trans HG.out gw)
  clear gw
  have hb := XB.new (2 : Int) hm hn
  have gw := World.grownBy_alloc V10 (.cells #[.int .i64 2, .slice aj nj cj] 26) none
  obtain ⟨V11, hU⟩ : ∃ z, World.alloc V10 (.cells #[.int .i64 2, .slice aj nj cj] 26) = z := ⟨_, rfl⟩
  rw [hU] at gw hb ⊢
  clear hU
  rw [hsU] at hb
  clear hsU
  obtain ⟨bj, hbb⟩ : ∃ b, bi + 1 = b := ⟨_, rfl⟩
  rw [hbb] at hb ⊢
  clear hbb
  replace h1 := h1.grown gw
  replace Hc := Lib.hid (Hc.out.grown gw)
  replace Ha := Lib.hid (Ha.out.grown gw)
  replace Hd := Lib.hid (Hd.out.grown gw)
  replace He := Lib.hid (He.out.grown gw)
  replace HVV := Lib.hid (HVV.out.grown gw)
  replace HG := Lib.hid (World.grownBy.trans HG.out gw)
  clear gw
  have Hi := Lib.hid h1
  clear h1
  have Hj := Lib.hid hb
  clear hb
  clear hr hm hn
  clear HC1
  have hrk : ∀ c ∈ A, 0 ≤ c.1 ∧ c.1 ≤ 10000 := fun c hc => by
    have h1 := HMA.out.2 c hc
    have h2 : n * n ≤ 4 * 4 := Nat.mul_le_mul HNK.out.2.1 HNK.out.2.1
    have h3 : ((n * n : Nat) : Int) ≤ 16 := by omega
    rw [Int.natCast_mul] at h3
    omega
  have hc44 := fun (U : World) (hU : World.grownBy V11 U none) => mturn_calls U n 2 A aA cA mA Ha.out.2.2.1 (Ha.out.2.2.2.grown hU) HNK.out.1 HNK.out.2.1 (by have h1 := HMA.out.len; have h2 := Ha.out.2.2.1; have : n * n ≤ 4 * 4 := Nat.mul_le_mul HNK.out.2.1 HNK.out.2.1; omega) hrk
  clear hrk
  have hc60 := fun (U : World) (b : Option Addr) (d : Nat) (l : List Cl) (hU : World.grownBy V11 U none) (hp : l.Perm (turnM n A)) (hs : SortedCl l) (hl : CellsW U b d l) => smaller_calls U n g l a0 b c0 d g.length mA rfl (by rw [hp.length_eq]; unfold turnM; rw [List.length_map]; exact Ha.out.2.2.1) (Hc.out.2.2.grown hU) hl HBU.out.1 (turnM_sq HMA.out hp hs) HNK.out.1 HNK.out.2.1 HRC.out.1
  have HB8 := Lib.hid (And.intro Hc.out (And.intro Ha.out (And.intro hc44 hc60)))
  clear hc44 hc60
  refine hv8_all (fun c a d v w h => by cases d <;> exact h) HB8 (Lib.hid ?_)
  intro l aJ cJ bJ nJ dJ p6 p7 _ _ _ _ _ _ _ _ _ _ _ _ _ _ _ _ _ _ _ _ _ _ _ _ _ _ _ _ _ _ _ _ _ _ _ _ _ _ _ _ _ _ _ _ _ _ _ _ _ _ _ _ _ _ _ _ _ _ _ _ _ _ _ _ _ _ _ _ _ _ _ _ _ V12 g1 l_p l_s l_n _ _ hcb hxb
  clear HB8
  replace Hc := Lib.hid (Hc.out.grown g1)
  replace Ha := Lib.hid (Ha.out.grown g1)
  replace Hd := Lib.hid (Hd.out.grown g1)
  replace He := Lib.hid (He.out.grown g1)
  replace Hi := Lib.hid (Hi.out.grown g1)
  replace Hj := Lib.hid (Hj.out.grown g1)
  replace HVV := Lib.hid (HVV.out.grown g1)
  replace HG := Lib.hid (World.grownBy.trans HG.out g1)
  clear g1
  have Hf := Lib.hid hcb
  have Hh := Lib.hid hxb
  clear hcb hxb
  have sq := turnM_sq HMA.out l_p l_s
  have vt := val_turn HBU.out.1 HMA.out l_p l_s vs
  have q1 := (show valL (smP n g l).1 vs (smP n g l).2 = uniq (closS n (valL g vs l)) from smP_val HBU.out.1 sq HNK.out.1 HNK.out.2.1 (by have := HBU.out; omega) vs)
  rw [vt, HT2.out] at q1
  have o1 := smP_ok HBU.out.1 sq HNK.out.1 HNK.out.2.1 (by have := HBU.out; omega)
  obtain ⟨qf, hqf⟩ : ∃ z, smP n g l = z := ⟨_, rfl⟩
  obtain ⟨gf, mf⟩ := qf
  rw [hqf] at q1 o1 Hf Hh l_n
  simp only at q1 o1 Hf Hh l_n
  obtain ⟨T, hT⟩ : ∃ z, uniq (turnL n C) = z := ⟨_, rfl⟩
  rw [hT] at q1
  obtain ⟨nT, hnT⟩ : ∃ z, T.length = z := ⟨_, rfl⟩
  obtain ⟨nC, hnC⟩ : ∃ z, C.length = z := ⟨_, rfl⟩
  have hT16 : nT ≤ 2000 := by have h1 : (uniq (turnL n C)).length ≤ (turnL n C).length := ofTo_len; rw [hT, hnT] at h1; unfold turnL at h1; rw [List.length_map] at h1; have := HCL.out; omega
  have HTL := Lib.hid (And.intro hnT hT16)
  have HCN := Lib.hid hnC
  have Kf := Lib.hid (show Good gf ∧ gf.length ≤ 900 ∧ Sq n gf mf ∧ mf.length ≤ 16 ∧ valL gf vs mf = T from ⟨o1.1, by have h1 := o1.2.2.1; have h2 := HRC.out.1; omega, o1.2.2.2.1, by have h1 := o1.2.2.2.1.len; have : n * n ≤ 4 * 4 := Nat.mul_le_mul HNK.out.2.1 HNK.out.2.1; omega, q1⟩)
  have hrt := fun (U : World) (b : Option Addr) (d : Nat) (hU : IntsW U b d C) => relTurn_calls n 2 C b d U hU (by have := HCL.out; omega) HNK.out.1 (by have := HNK.out; omega) HCX.out
  rw [hT, hnT, hnC] at hrt
  have HRT := Lib.hid hrt
  clear sq vt q1 o1 hqf hT hnT hnC hT16 l_p l_s l_n hrt
  have qc := Hc.out.1
  have qa := Ha.out.1
  have ra := Ha.out.2.1
  have qd := Hd.out.1
  have qe := He.out.1
  have re := He.out.2.1
  have qi := Hi.out.1
  have qj := Hj.out.1
  have rj := Hj.out.2.1
  have qf := Hf.out.1
  have qh := Hh.out.1
  have rh := Hh.out.2.1
  go_upto_region 9 with fail
  clear qc qa ra qd qe re qi qj rj qf qh rh
  have HS := Lib.hid (fun (Wh : World) (hWh : V12.grownBy Wh none) => (⟨hWh, hWh.cell Hi.out.1 (by simp), hWh.cell Hd.out.1 (by simp), hWh.cell Hf.out.1 (by simp), hWh.cell Hj.out.1 (by simp), hWh.cell Hj.out.2.1 (by simp), hWh.cell He.out.1 (by simp), hWh.cell He.out.2.1 (by simp), hWh.cell Hh.out.1 (by simp), hWh.cell Hh.out.2.1 (by simp)⟩ : (fun Wh : World => V12.grownBy Wh none ∧ Wh.cell? ⟨bi, 0, none⟩ = some (.slice ai ge.length ci) ∧ Wh.cell? ⟨bd, 0, none⟩ = some (.slice ad gd.length cd) ∧ Wh.cell? ⟨p6, 0, none⟩ = some (.slice aJ gf.length cJ) ∧ Wh.cell? ⟨bj, 0, none⟩ = some (.int .i64 2) ∧ Wh.cell? ⟨bj, 1, none⟩ = some (.slice aj nj cj) ∧ Wh.cell? ⟨be, 0, none⟩ = some (.int .i64 2) ∧ Wh.cell? ⟨be, 1, none⟩ = some (.slice ae ne ce) ∧ Wh.cell? ⟨p7, 0, none⟩ = some (.int .i64 2) ∧ Wh.cell? ⟨p7, 1, none⟩ = some (.slice bJ nJ dJ)) Wh))
  have hdr : V12.grownBy V12.drew none := ⟨rfl, rfl, rfl, Nat.le_refl _, fun _ _ _ => rfl⟩
  refine wp_region_held_drew (S := (fun Wh : World => V12.grownBy Wh none ∧ Wh.cell? ⟨bi, 0, none⟩ = some (.slice ai ge.length ci) ∧ Wh.cell? ⟨bd, 0, none⟩ = some (.slice ad gd.length cd) ∧ Wh.cell? ⟨p6, 0, none⟩ = some (.slice aJ gf.length cJ) ∧ Wh.cell? ⟨bj, 0, none⟩ = some (.int .i64 2) ∧ Wh.cell? ⟨bj, 1, none⟩ = some (.slice aj nj cj) ∧ Wh.cell? ⟨be, 0, none⟩ = some (.int .i64 2) ∧ Wh.cell? ⟨be, 1, none⟩ = some (.slice ae ne ce) ∧ Wh.cell? ⟨p7, 0, none⟩ = some (.int .i64 2) ∧ Wh.cell? ⟨p7, 1, none⟩ = some (.slice bJ nJ dJ))) (by kernel_rfl) (HS.out _ hdr) (fun hHeld => ?_)
  refine wpAnyH_take (i := 0) (oi := { dst := some 59, op := Op.move (Operand.tmp 9), type := 4, pos := "law.go:153", after := #[], guard := none }) (v := ?_) rfl (by kernel_rfl) (by kernel_rfl) (by kernel_rfl) (fun _ _ _ h => h) (Or.inl ⟨by rfl, ?_⟩) (by assumption) ?_
  rotate_left 1
  · (intro W h; go_simp <;> with_reducible rfl)
  try simp only [Act.put, sA, sB, sC]
  refine wpAnyH_take (i := 1) (oi := { dst := some 60, op := Op.move (Operand.tmp 59), type := 4, pos := "law.go:153", after := #[{ on := 0, ground := Ground.data }], guard := none }) (v := ?_) rfl (by kernel_rfl) (by kernel_rfl) (by kernel_rfl) (fun _ _ _ h => h) (Or.inl ⟨by rfl, ?_⟩) (by assumption) ?_
  rotate_left 1
  · (intro W h; go_simp <;> with_reducible rfl)
  try simp only [Act.put, sA, sB, sC]
  refine wpAnyH_take (i := 2) (oi := { dst := some 61, op := Op.load 30 (Operand.tmp 16), type := 30, pos := "law.go:153", after := #[{ on := 1, ground := Ground.guard }], guard := some (1, true) }) (v := ?_) rfl (by kernel_rfl) (by kernel_rfl) (by kernel_rfl) (fun _ _ _ h => h) (Or.inl ⟨by rfl, ?_⟩) (by assumption) ?_
  rotate_left 1
  · (intro W h; go_simp <;> with_reducible rfl)
  try simp only [Act.put, sA, sB, sC]
  refine wpAnyH_take (i := 3) (oi := { dst := some 62, op := Op.load 26 (Operand.tmp 17), type := 26, pos := "law.go:153", after := #[{ on := 1, ground := Ground.guard }], guard := some (1, true) }) (v := ?_) rfl (by kernel_rfl) (by kernel_rfl) (by kernel_rfl) (fun _ _ _ h => h) (Or.inl ⟨by rfl, ?_⟩) (by assumption) ?_
  rotate_left 1
  · (intro W h; go_simp <;> with_reducible rfl)
  try simp only [Act.put, sA, sB, sC]
  refine wpAnyH_take (i := 4) (oi := { dst := some 63, op := Op.move (Operand.tmp 13), type := 49, pos := "law.go:153", after := #[{ on := 1, ground := Ground.guard }], guard := some (1, true) }) (v := ?_) rfl (by kernel_rfl) (by kernel_rfl) (by kernel_rfl) (fun _ _ _ h => h) (Or.inl ⟨by rfl, ?_⟩) (by assumption) ?_
  rotate_left 1
  · (intro W h; go_simp <;> with_reducible rfl)
  try simp only [Act.put, sA, sB, sC]
  refine wpAnyH_take (i := 6) (oi := { dst := some 65, op := Op.load 30 (Operand.tmp 14), type := 30, pos := "law.go:153", after := #[{ on := 1, ground := Ground.guard }], guard := some (1, true) }) (v := ?_) rfl (by kernel_rfl) (by kernel_rfl) (by kernel_rfl) (fun _ _ _ h => h) (Or.inl ⟨by rfl, ?_⟩) (by assumption) ?_
  rotate_left 1
  · (intro W h; go_simp <;> with_reducible rfl)
  try simp only [Act.put, sA, sB, sC]
  refine wpAnyH_take (i := 7) (oi := { dst := some 66, op := Op.load 26 (Operand.tmp 15), type := 26, pos := "law.go:153", after := #[{ on := 1, ground := Ground.guard }], guard := some (1, true) }) (v := ?_) rfl (by kernel_rfl) (by kernel_rfl) (by kernel_rfl) (fun _ _ _ h => h) (Or.inl ⟨by rfl, ?_⟩) (by assumption) ?_
  rotate_left 1
  · (intro W h; go_simp <;> with_reducible rfl)
  try simp only [Act.put, sA, sB, sC]
  refine wpAnyH_take (i := 8) (oi := { dst := some 67, op := Op.move (Operand.tmp 13), type := 49, pos := "law.go:153", after := #[{ on := 1, ground := Ground.guard }], guard := some (1, true) }) (v := ?_) rfl (by kernel_rfl) (by kernel_rfl) (by kernel_rfl) (fun _ _ _ h => h) (Or.inl ⟨by rfl, ?_⟩) (by assumption) ?_
  rotate_left 1
  · (intro W h; go_simp <;> with_reducible rfl)
  try simp only [Act.put, sA, sB, sC]
  refine wpAnyH_ready (rs := [5]) (by kernel_rfl) (by simp) ?_
  refine (AllReadyH.cons (o := { dst := some 64, op := Op.call { callee := Callee.value (Operand.func 34), args := #[Operand.tmp 61, Operand.tmp 62, Operand.tmp 63], argTypes := #[30, 26, 49] }, type := 47, pos := "law.go:153", after := #[{ on := 2, ground := Ground.data }, { on := 3, ground := Ground.data }, { on := 4, ground := Ground.data }, { on := 1, ground := Ground.chain }, { on := 1, ground := Ground.guard }], guard := some (1, true) }) rfl (fun K hK => ?_) AllReadyH.nil)
  rw [if_pos (by rfl)]
  go_simp
  go_at_call 34
  refine (value15_at 2 Ke.out.2.2.2.2 HCN.out Hj.out.2.2.1 HVL.out Ke.out.1 (by have := Ke.out; omega) (fun c hc => (Ke.out.2.2.1.1.2 c hc).1) (by have := Ke.out.2.2.2.1; have := Hj.out.2.2.1; omega) (Hi.out.grown hdr).2.2 (Hj.out.grown hdr).2.2.2 (HVV.out.grown hdr)).mono ?_
  rintro e wc1 ⟨bv0, dv0, rfl, hv0, gc1⟩
  have hgr1 := World.grownBy.trans hdr gc1
  go_wp2_with fail
  refine hK.out _ _ (HS.out _ hgr1) (fun hHeld => ?_)
  clear hK K
  try simp only [Act.put, sA, sB, sC]
  refine wpAnyH_ready (rs := [9]) (by kernel_rfl) (by simp) ?_
  refine (AllReadyH.cons (o := { dst := some 68, op := Op.call { callee := Callee.value (Operand.func 34), args := #[Operand.tmp 65, Operand.tmp 66, Operand.tmp 67], argTypes := #[30, 26, 49] }, type := 47, pos := "law.go:153", after := #[{ on := 6, ground := Ground.data }, { on := 7, ground := Ground.data }, { on := 8, ground := Ground.data }, { on := 5, ground := Ground.chain }, { on := 1, ground := Ground.guard }], guard := some (1, true) }) rfl (fun K hK => ?_) AllReadyH.nil)
  rw [if_pos (by rfl)]
  go_simp
  go_at_call 34
  refine (value15_at 2 Kd.out.2.2.2.2.2 HCN.out He.out.2.2.1 HVL.out Kd.out.1 (by have := Kd.out; omega) (fun c hc => (Kd.out.2.2.2.1.1.2 c hc).1) (by have := Kd.out.2.2.2.2.1; have := He.out.2.2.1; omega) (Hd.out.grown hgr1).2.2 (He.out.grown hgr1).2.2.2 (HVV.out.grown hgr1)).mono ?_
  rintro e wc2 ⟨bv1, dv1, rfl, hv1, gc2⟩
  have hgr2 := World.grownBy.trans hgr1 gc2
  go_wp2_with fail
  refine hK.out _ _ (HS.out _ hgr2) (fun hHeld => ?_)
  clear hK K
  try simp only [Act.put, sA, sB, sC]
  refine wpAnyH_ready (rs := [10]) (by kernel_rfl) (by simp) ?_
  refine (AllReadyH.cons (o := { dst := some 69, op := Op.call { callee := Callee.value (Operand.func 37), args := #[Operand.tmp 64, Operand.tmp 68], argTypes := #[47, 47] }, type := 4, pos := "law.go:153", after := #[{ on := 5, ground := Ground.data }, { on := 9, ground := Ground.data }, { on := 9, ground := Ground.chain }, { on := 1, ground := Ground.guard }], guard := some (1, true) }) rfl (fun K hK => ?_) AllReadyH.nil)
  rw [if_pos (by rfl)]
  go_simp
  go_at_call 37
  refine (h_eq_at 2 HCN.out (hv0.grown gc2) hv1 (by have := HCL.out; have := HCN.out; omega)).mono ?_
  rintro e wc3 ⟨rfl, gc3⟩
  have hgr3 := World.grownBy.trans hgr2 gc3
  go_wp2_with fail
  refine hK.out _ _ (HS.out _ hgr3) (fun hHeld => ?_)
  clear hK K
  try simp only [Act.put, sA, sB, sC]
  refine wpAnyH_take (i := 11) (oi := { dst := some 70, op := Op.pick (Operand.tmp 60) (Operand.tmp 69) (Operand.const (Value.bool false)), type := 4, pos := "law.go:153", after := #[{ on := 1, ground := Ground.data }, { on := 10, ground := Ground.data }], guard := none }) (v := ?_) rfl (by kernel_rfl) (by kernel_rfl) (by kernel_rfl) (fun _ _ _ h => h) (Or.inl ⟨by rfl, ?_⟩) (by assumption) ?_
  rotate_left 1
  · (intro W h; go_simp <;> with_reducible rfl)
  try simp only [Act.put, sA, sB, sC]
  refine wpAnyH_take (i := 12) (oi := { dst := some 71, op := Op.move (Operand.tmp 70), type := 4, pos := "law.go:153", after := #[{ on := 11, ground := Ground.data }, { on := 10, ground := Ground.chain }], guard := none }) (v := ?_) rfl (by kernel_rfl) (by kernel_rfl) (by kernel_rfl) (fun _ _ _ h => h) (Or.inl ⟨by rfl, ?_⟩) (by assumption) ?_
  rotate_left 1
  · (intro W h; go_simp <;> with_reducible rfl)
  try simp only [Act.put, sA, sB, sC]
  refine wpAnyH_take (i := 13) (oi := { dst := some 72, op := Op.load 30 (Operand.tmp 18), type := 30, pos := "law.go:153", after := #[{ on := 12, ground := Ground.guard }], guard := some (12, true) }) (v := ?_) rfl (by kernel_rfl) (by kernel_rfl) (by kernel_rfl) (fun _ _ _ h => h) (Or.inl ⟨by rfl, ?_⟩) (by assumption) ?_
  rotate_left 1
  · (intro W h; go_simp <;> with_reducible rfl)
  try simp only [Act.put, sA, sB, sC]
  refine wpAnyH_take (i := 14) (oi := { dst := some 73, op := Op.load 26 (Operand.tmp 19), type := 26, pos := "law.go:153", after := #[{ on := 12, ground := Ground.guard }], guard := some (12, true) }) (v := ?_) rfl (by kernel_rfl) (by kernel_rfl) (by kernel_rfl) (fun _ _ _ h => h) (Or.inl ⟨by rfl, ?_⟩) (by assumption) ?_
  rotate_left 1
  · (intro W h; go_simp <;> with_reducible rfl)
  try simp only [Act.put, sA, sB, sC]
  refine wpAnyH_take (i := 15) (oi := { dst := some 74, op := Op.move (Operand.tmp 13), type := 49, pos := "law.go:153", after := #[{ on := 12, ground := Ground.guard }], guard := some (12, true) }) (v := ?_) rfl (by kernel_rfl) (by kernel_rfl) (by kernel_rfl) (fun _ _ _ h => h) (Or.inl ⟨by rfl, ?_⟩) (by assumption) ?_
  rotate_left 1
  · (intro W h; go_simp <;> with_reducible rfl)
  try simp only [Act.put, sA, sB, sC]
  refine wpAnyH_take (i := 17) (oi := { dst := some 76, op := Op.move (Operand.tmp 11), type := 3, pos := "law.go:153", after := #[{ on := 12, ground := Ground.guard }], guard := some (12, true) }) (v := ?_) rfl (by kernel_rfl) (by kernel_rfl) (by kernel_rfl) (fun _ _ _ h => h) (Or.inl ⟨by rfl, ?_⟩) (by assumption) ?_
  rotate_left 1
  · (intro W h; go_simp <;> with_reducible rfl)
  try simp only [Act.put, sA, sB, sC]
  refine wpAnyH_take (i := 18) (oi := { dst := some 77, op := Op.load 30 (Operand.tmp 14), type := 30, pos := "law.go:153", after := #[{ on := 12, ground := Ground.guard }], guard := some (12, true) }) (v := ?_) rfl (by kernel_rfl) (by kernel_rfl) (by kernel_rfl) (fun _ _ _ h => h) (Or.inl ⟨by rfl, ?_⟩) (by assumption) ?_
  rotate_left 1
  · (intro W h; go_simp <;> with_reducible rfl)
  try simp only [Act.put, sA, sB, sC]
  refine wpAnyH_take (i := 19) (oi := { dst := some 78, op := Op.load 26 (Operand.tmp 15), type := 26, pos := "law.go:153", after := #[{ on := 12, ground := Ground.guard }], guard := some (12, true) }) (v := ?_) rfl (by kernel_rfl) (by kernel_rfl) (by kernel_rfl) (fun _ _ _ h => h) (Or.inl ⟨by rfl, ?_⟩) (by assumption) ?_
  rotate_left 1
  · (intro W h; go_simp <;> with_reducible rfl)
  try simp only [Act.put, sA, sB, sC]
  refine wpAnyH_take (i := 20) (oi := { dst := some 79, op := Op.move (Operand.tmp 13), type := 49, pos := "law.go:153", after := #[{ on := 12, ground := Ground.guard }], guard := some (12, true) }) (v := ?_) rfl (by kernel_rfl) (by kernel_rfl) (by kernel_rfl) (fun _ _ _ h => h) (Or.inl ⟨by rfl, ?_⟩) (by assumption) ?_
  rotate_left 1
  · (intro W h; go_simp <;> with_reducible rfl)
  try simp only [Act.put, sA, sB, sC]
  refine wpAnyH_ready (rs := [16]) (by kernel_rfl) (by simp) ?_
  refine (AllReadyH.cons (o := { dst := some 75, op := Op.call { callee := Callee.value (Operand.func 34), args := #[Operand.tmp 72, Operand.tmp 73, Operand.tmp 74], argTypes := #[30, 26, 49] }, type := 47, pos := "law.go:153", after := #[{ on := 13, ground := Ground.data }, { on := 14, ground := Ground.data }, { on := 15, ground := Ground.data }, { on := 12, ground := Ground.chain }, { on := 12, ground := Ground.guard }], guard := some (12, true) }) rfl (fun K hK => ?_) AllReadyH.nil)
  rw [if_pos (by rfl)]
  go_simp
  go_at_call 34
  refine (value15_at 2 Kf.out.2.2.2.2 HTL.out.1 Hh.out.2.2.1 HVL.out Kf.out.1 (by have := Kf.out; omega) (fun c hc => (Kf.out.2.2.1.1.2 c hc).1) (by have := Kf.out.2.2.2.1; have := Hh.out.2.2.1; omega) (Hf.out.grown hgr3).2.2 (Hh.out.grown hgr3).2.2.2 (HVV.out.grown hgr3)).mono ?_
  rintro e wc4 ⟨bv2, dv2, rfl, hv2, gc4⟩
  have hgr4 := World.grownBy.trans hgr3 gc4
  go_wp2_with fail
  refine hK.out _ _ (HS.out _ hgr4) (fun hHeld => ?_)
  clear hK K
  try simp only [Act.put, sA, sB, sC]
  refine wpAnyH_ready (rs := [21]) (by kernel_rfl) (by simp) ?_
  refine (AllReadyH.cons (o := { dst := some 80, op := Op.call { callee := Callee.value (Operand.func 34), args := #[Operand.tmp 77, Operand.tmp 78, Operand.tmp 79], argTypes := #[30, 26, 49] }, type := 47, pos := "law.go:153", after := #[{ on := 18, ground := Ground.data }, { on := 19, ground := Ground.data }, { on := 20, ground := Ground.data }, { on := 16, ground := Ground.chain }, { on := 12, ground := Ground.guard }], guard := some (12, true) }) rfl (fun K hK => ?_) AllReadyH.nil)
  rw [if_pos (by rfl)]
  go_simp
  go_at_call 34
  refine (value15_at 2 Kd.out.2.2.2.2.2 HCN.out He.out.2.2.1 HVL.out Kd.out.1 (by have := Kd.out; omega) (fun c hc => (Kd.out.2.2.2.1.1.2 c hc).1) (by have := Kd.out.2.2.2.2.1; have := He.out.2.2.1; omega) (Hd.out.grown hgr4).2.2 (He.out.grown hgr4).2.2.2 (HVV.out.grown hgr4)).mono ?_
  rintro e wc5 ⟨bv3, dv3, rfl, hv3, gc5⟩
  have hgr5 := World.grownBy.trans hgr4 gc5
  go_wp2_with fail
  refine hK.out _ _ (HS.out _ hgr5) (fun hHeld => ?_)
  clear hK K
  try simp only [Act.put, sA, sB, sC]
  refine wpAnyH_ready (rs := [22]) (by kernel_rfl) (by simp) ?_
  refine (AllReadyH.cons (o := { dst := some 81, op := Op.call { callee := Callee.value (Operand.func 67), args := #[Operand.tmp 76, Operand.tmp 80], argTypes := #[3, 47] }, type := 47, pos := "law.go:153", after := #[{ on := 17, ground := Ground.data }, { on := 21, ground := Ground.data }, { on := 21, ground := Ground.chain }, { on := 12, ground := Ground.guard }], guard := some (12, true) }) rfl (fun K hK => ?_) AllReadyH.nil)
  rw [if_pos (by rfl)]
  go_simp
  go_at_call 67
  refine (HRT.out _ bv3 dv3 hv3).mono ?_
  rintro e wc6 ⟨bt4, dt4, rfl, hs4, gc6⟩
  have hgr6 := World.grownBy.trans hgr5 gc6
  have hv4 := hs4.here
  clear hs4
  have hv2b := hv2.grown (World.grownBy.trans gc5 gc6)
  go_wp2_with fail
  refine hK.out _ _ (HS.out _ hgr6) (fun hHeld => ?_)
  clear hK K
  try simp only [Act.put, sA, sB, sC]
  refine wpAnyH_ready (rs := [23]) (by kernel_rfl) (by simp) ?_
  refine (AllReadyH.cons (o := { dst := some 82, op := Op.call { callee := Callee.value (Operand.func 37), args := #[Operand.tmp 75, Operand.tmp 81], argTypes := #[47, 47] }, type := 4, pos := "law.go:153", after := #[{ on := 16, ground := Ground.data }, { on := 22, ground := Ground.data }, { on := 22, ground := Ground.chain }, { on := 12, ground := Ground.guard }], guard := some (12, true) }) rfl (fun K hK => ?_) AllReadyH.nil)
  rw [if_pos (by rfl)]
  go_simp
  go_at_call 37
  refine (h_eq_at 2 HTL.out.1 hv2b hv4 HTL.out.2).mono ?_
  rintro e wc7 ⟨rfl, gc7⟩
  have hgr7 := World.grownBy.trans hgr6 gc7
  go_wp2_with fail
  refine hK.out _ _ (HS.out _ hgr7) (fun hHeld => ?_)
  clear hK K
  try simp only [Act.put, sA, sB, sC]
  refine wpAnyH_take (i := 24) (oi := { dst := some 83, op := Op.pick (Operand.tmp 71) (Operand.tmp 82) (Operand.const (Value.bool false)), type := 4, pos := "law.go:153", after := #[{ on := 12, ground := Ground.data }, { on := 23, ground := Ground.data }], guard := none }) (v := ?_) rfl (by kernel_rfl) (by kernel_rfl) (by kernel_rfl) (fun _ _ _ h => h) (Or.inl ⟨by rfl, ?_⟩) (by assumption) ?_
  rotate_left 1
  · (intro W h; go_simp <;> with_reducible rfl)
  try simp only [Act.put, sA, sB, sC]
  refine wpAnyH_take (i := 25) (oi := { dst := some 8, op := Op.assign (Operand.tmp 83), type := 4, pos := "law.go:153", after := #[{ on := 24, ground := Ground.data }, { on := 23, ground := Ground.chain }, { on := 0, ground := Ground.phase }, { on := 1, ground := Ground.phase }, { on := 2, ground := Ground.phase }, { on := 3, ground := Ground.phase }, { on := 4, ground := Ground.phase }, { on := 5, ground := Ground.phase }, { on := 6, ground := Ground.phase }, { on := 7, ground := Ground.phase }, { on := 8, ground := Ground.phase }, { on := 9, ground := Ground.phase }, { on := 10, ground := Ground.phase }, { on := 11, ground := Ground.phase }, { on := 12, ground := Ground.phase }, { on := 13, ground := Ground.phase }, { on := 14, ground := Ground.phase }, { on := 15, ground := Ground.phase }, { on := 16, ground := Ground.phase }, { on := 17, ground := Ground.phase }, { on := 18, ground := Ground.phase }, { on := 19, ground := Ground.phase }, { on := 20, ground := Ground.phase }, { on := 21, ground := Ground.phase }, { on := 22, ground := Ground.phase }, { on := 23, ground := Ground.phase }, { on := 24, ground := Ground.phase }], guard := none }) (v := ?_) rfl (by kernel_rfl) (by kernel_rfl) (by kernel_rfl) (fun _ _ _ h => h) (Or.inl ⟨by rfl, ?_⟩) (by assumption) ?_
  rotate_left 1
  · (intro W h; go_simp <;> with_reducible rfl)
  try simp only [Act.put, sA, sB, sC]
  refine wpAnyH_done (by kernel_rfl) ?_ _
  have hEND := hgr7
  clear hHeld
  go_wp2_with fail
  go_ret
  exact ⟨rfl, World.grownBy.trans HG.out hEND⟩
end Go.Proofs.Ythdhmflodiincaa

namespace Go.Proofs.Ythdhmflodiincaa
open Go.ChangeShapes Go.WideShapes Go.ChangeAt Go.WideMaps Go.WideElems Go.RowKit

theorem closureIdempotent_lifted (os : Os) (started : os.Started) (H : Type) (enc : TypeId × Value → H) :
    ReturnsInHanded {} Try.checked os 11 .any (Rows.closureIdempotentSpec.pre6 enc Try.prog Try.f11 [] false) (Rows.closureIdempotentSpec.post enc Try.prog Try.f11 false true false false) := by
  refine returnsInHanded_of_change (C := Try.checked) own started (by kernel_rfl) Try.func11
    (ChangeSpec.witness6 (enc := enc) (C := Try.checked) false ⟨#[], #[.int .u8 0, .slice none 0 0, .slice none 0 0, .int .u8 0], []⟩ 8 (by kernel_rfl) (by kernel_rfl) (by kernel_rfl) (by kernel_rfl)) ?_
  intro W base args ds gs before hval0 hW _ _
  have hval : ∀ (j : Nat) t v, Try.f11.params[j]? = some t → args[j]? = some v → Value.okWide Try.prog W .any base t v := hval0
  have hW' := hW
  obtain ⟨p, q, hA0, hV, rfl, _, _⟩ := hW
  have hA : DataW.TrodAll enc Try.prog W 0 (fun _ => true) true Try.f11.params.toList args.toList ds p := hA0
  rw [Try.params11] at hA hval
  have hpl : ∀ x ∈ p, x.block < W.heap.size := fun x hx => hW'.lt x (by simp [hx])
  have hA2 := hA
  obtain ⟨v0, v1, v2, v3, d0, d1, d2, d3, p0, p1, p2, p3, rfl, rfl, rfl, h0, h1, h2, h3⟩ := trodAll_four hA
  obtain ⟨rfl, rfl⟩ := trodVars_none hV
  obtain ⟨z0, rfl, hz0⟩ := open_u8 (hval 0 5 v0 rfl rfl) h0
  obtain ⟨l1, sa1, sc1, rfl, hs1, ho1, hm1⟩ := open_stps (hval 1 22 v1 rfl rfl) h1
  obtain ⟨l2, sa2, sc2, rfl, hs2, ho2, hm2⟩ := open_u8s (hval 2 23 v2 rfl rfl) h2
  obtain ⟨z3, rfl, hz3⟩ := open_u8 (hval 3 5 v3 rfl rfl) h3
  refine (idem_calls z0 z3 l1 l2 _ _ sa1 sa2 sc1 sc2 W hz0 hz3 rfl rfl hs1 ho1 hs2 ho2 hm2).mono fun e W' ⟨he, hw⟩ => ?_
  subst he
  have hbl := below_of hw
  exact ⟨_, rfl, _, _, _, [], _, [], hW', trodAll_mk1 (shut_bool Try.underlying4 _), trodAll_below hbl (by decide +kernel) hA2 hpl, rfl, hbl.frame _, fun h => by cases h⟩

theorem closureIdempotent_holds : Rows.ClosureIdempotentSaid :=
  OpenClaim.holds_of_wide 11 Try.f11 rfl rfl rfl rfl rfl rfl rfl ⟨rfl, rfl, rfl, rfl, rfl⟩ rfl rfl rfl rfl rfl (by kernel_rfl) Try.func11 (by kernel_rfl)
    (of_decide_eq_true (by kernel_rfl)) (by unfold Func.isWrapper; rw [if_neg (of_decide_eq_false (by kernel_rfl))]; exact ⟨rfl, rfl⟩)
    (fun os started H enc _ => closureIdempotent_lifted os started H enc)
end Go.Proofs.Ythdhmflodiincaa
