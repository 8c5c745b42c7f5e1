/- Texts of the proof: Z3. -/
import Derived.Test.YthdhmflodiincaaGreatCC00
import Derived.Test.YthdhmflodiincaaGreatCC13
import Derived.Test.YthdhmflodiincaaGreatCC15
import Derived.Test.YthdhmflodiincaaGreatCC22
import Derived.Test.YthdhmflodiincaaGreatCC17
import Derived.Test.YthdhmflodiincaaGreatCC23
import Derived.Test.YthdhmflodiincaaGreatCC24
import Derived.Test.YthdhmflodiincaaGreatCC28
import Derived.Deep.DeepCutAuto
set_option maxRecDepth 100000
set_option maxHeartbeats 8000000
namespace Go.Proofs.YthdhmflodiincaaGreat
open Go.RowKit Go.Maps
open Lib (hid)

abbrev z3o0 : Oper := { dst := some 138, op := Op.move (Operand.tmp 11), type := 4, pos := "law.go:183", after := #[], guard := none }
abbrev z3o1 : Oper := { dst := some 139, op := Op.move (Operand.tmp 138), type := 4, pos := "law.go:183", after := #[{ on := 0, ground := Ground.data }], guard := none }
abbrev z3o2 : Oper := { dst := some 140, op := Op.move (Operand.tmp 15), type := 3, pos := "law.go:183", after := #[{ on := 1, ground := Ground.guard }], guard := some (1, true) }
abbrev z3o3 : Oper := { dst := some 141, op := Op.binOp BinOp.neq 3 (Operand.tmp 140) (Operand.const (Value.int IntKind.i64 2)) 3, type := 4, pos := "law.go:183", after := #[{ on := 2, ground := Ground.data }, { on := 1, ground := Ground.guard }], guard := some (1, true) }
abbrev z3o4 : Oper := { dst := some 142, op := Op.move (Operand.tmp 141), type := 4, pos := "law.go:183", after := #[{ on := 3, ground := Ground.data }, { on := 1, ground := Ground.chain }, { on := 1, ground := Ground.guard }], guard := some (1, true) }
abbrev z3o5 : Oper := { dst := some 143, op := Op.load 27 (Operand.tmp 12), type := 27, pos := "law.go:183", after := #[{ on := 4, ground := Ground.guard }], guard := some (4, false) }
abbrev z3o6 : Oper := { dst := some 144, op := Op.move (Operand.tmp 14), type := 3, pos := "law.go:183", after := #[{ on := 4, ground := Ground.guard }], guard := some (4, false) }
abbrev z3o7 : Oper := { dst := some 145, op := Op.load 35 (Operand.tmp 17), type := 35, pos := "law.go:183", after := #[{ on := 4, ground := Ground.guard }], guard := some (4, false) }
abbrev z3o8 : Oper := { dst := some 147, op := Op.move (Operand.tmp 19), type := 37, pos := "law.go:183", after := #[{ on := 4, ground := Ground.guard }], guard := some (4, false) }
abbrev z3o9 : Oper := { dst := some 149, op := Op.move (Operand.tmp 14), type := 3, pos := "law.go:183", after := #[{ on := 4, ground := Ground.guard }], guard := some (4, false) }
abbrev z3o10 : Oper := { dst := some 150, op := Op.load 40 (Operand.tmp 20), type := 40, pos := "law.go:183", after := #[{ on := 4, ground := Ground.guard }], guard := some (4, false) }
abbrev z3o11 : Oper := { dst := some 146, op := Op.call { callee := Callee.value (Operand.func 19), args := #[Operand.tmp 144, Operand.tmp 145], argTypes := #[3, 35] }, type := 35, pos := "law.go:183", after := #[{ on := 6, ground := Ground.data }, { on := 7, ground := Ground.data }, { on := 4, ground := Ground.chain }, { on := 4, ground := Ground.guard }], guard := some (4, false) }
abbrev z3o12 : Oper := { dst := some 148, op := Op.call { callee := Callee.value (Operand.func 12), args := #[Operand.tmp 143, Operand.tmp 146, Operand.tmp 147], argTypes := #[27, 35, 37] }, type := 40, pos := "law.go:183", after := #[{ on := 5, ground := Ground.data }, { on := 8, ground := Ground.data }, { on := 9, ground := Ground.data }, { on := 8, ground := Ground.chain }, { on := 4, ground := Ground.guard }], guard := some (4, false) }
abbrev z3o13 : Oper := { dst := some 151, op := Op.call { callee := Callee.value (Operand.func 20), args := #[Operand.tmp 149, Operand.tmp 150], argTypes := #[3, 40] }, type := 40, pos := "law.go:183", after := #[{ on := 11, ground := Ground.data }, { on := 12, ground := Ground.data }, { on := 10, ground := Ground.chain }, { on := 4, ground := Ground.guard }], guard := some (4, false) }
abbrev z3o14 : Oper := { dst := some 152, op := Op.call { callee := Callee.value (Operand.func 16), args := #[Operand.tmp 148, Operand.tmp 151], argTypes := #[40, 40] }, type := 4, pos := "law.go:183", after := #[{ on := 10, ground := Ground.data }, { on := 13, ground := Ground.data }, { on := 13, ground := Ground.chain }, { on := 4, ground := Ground.guard }], guard := some (4, false) }
abbrev z3o15 : Oper := { dst := some 153, op := Op.pick (Operand.tmp 142) (Operand.const (Value.bool true)) (Operand.tmp 152), type := 4, pos := "law.go:183", after := #[{ on := 4, ground := Ground.data }, { on := 14, ground := Ground.data }, { on := 1, ground := Ground.guard }], guard := some (1, true) }
abbrev z3o16 : Oper := { dst := some 154, op := Op.pick (Operand.tmp 139) (Operand.tmp 153) (Operand.const (Value.bool false)), type := 4, pos := "law.go:183", after := #[{ on := 1, ground := Ground.data }, { on := 15, ground := Ground.data }], guard := none }
abbrev z3o17 : Oper := { dst := some 10, op := Op.assign (Operand.tmp 154), type := 4, pos := "law.go:183", after := #[{ on := 16, ground := Ground.data }, { on := 14, ground := Ground.chain }, { on := 0, ground := Ground.phase }, { on := 1, ground := Ground.phase }, { on := 2, ground := Ground.phase }, { on := 3, ground := Ground.phase }, { on := 4, ground := Ground.phase }, { on := 5, ground := Ground.phase }, { on := 6, ground := Ground.phase }, { on := 7, ground := Ground.phase }, { on := 8, ground := Ground.phase }, { on := 9, ground := Ground.phase }, { on := 10, ground := Ground.phase }, { on := 11, ground := Ground.phase }, { on := 12, ground := Ground.phase }, { on := 13, ground := Ground.phase }, { on := 14, ground := Ground.phase }, { on := 15, ground := Ground.phase }, { on := 16, ground := Ground.phase }], guard := none }
theorem value14_at {g : List Gt} {vs : List Bool} {m : List Cl} {C : List Int} {na nC : Nat} {xa ma va : Option Addr} {xc mc vc : Nat} {w : World} (ar : Int) (hC : valL g vs m = C) (hnC : C.length = nC) (hna : m.length = na) (hv8 : vs.length = 8) (hG : Good g) (hl : g.length ≤ 1000) (hok : ∀ c ∈ m, Ok g c.2) (hn : na ≤ 1000) (h : GatesW w xa xc g) (hm : CellsW w ma mc m) (hv : BoolsW w va vc vs) :
  Calls Tryz.prog 12 #[.agg #[.slice xa g.length xc], .agg #[.int .i64 ar, .slice ma na mc], .slice va 8 vc] w fun e w' => ∃ b d, e = .returned (.agg #[.int .i64 ar, .slice b nC d]) ∧ IntsW w' b d C ∧ w.grownBy w' none := by
 refine (value_at ar hna hv8 hG hl hok hn h hm hv).mono fun e w' he => ?_
 obtain ⟨b, nv, d, rfl, hl2, hi, hg⟩ := he
 rw [hC] at hl2 hi
 exact ⟨b, d, by rw [← hl2, hnC], hi, hg⟩
theorem valid14_at {g : List Gt} {m : List Cl} {na : Nat} {xa ma : Option Addr} {xc mc : Nat} {w : World} {ar : Int} (hs : Mat g m) (hr : ∀ c ∈ m, 0 ≤ c.1) (h1 : 1 ≤ ar) (h3 : ar ≤ 3) (hna : m.length = na) (hl : g.length ≤ 1000) (hn : na ≤ 1000) (hm : CellsW w ma mc m) :
  Calls Tryz.prog 15 #[.agg #[.slice xa g.length xc], .agg #[.int .i64 ar, .slice ma na mc]] w fun e w' => e = .returned (.bool true) ∧ w.grownBy w' none := by
 subst hna
 have h9 := mvalid_calls g m ar xa xc ma mc w hm hl hn
 rw [validM_of hs hr h1 h3] at h9
 exact h9
theorem upM_len {g : List Gt} {m : List Cl} {N : Nat} (h : Mat g m) (hr : ∀ c ∈ m, 0 ≤ c.1 ∧ c.1 < (N : Int)) : m.length ≤ N := up_len m 0 N h.1 (fun c hc => by have := hr c hc; omega)
theorem vals_len {g : List Gt} {v : List Bool} {m : List Cl} : (valL g v m).length ≤ m.length := by unfold valL; rw [List.length_map]; exact List.length_filter_le _ _
theorem vals_in {g : List Gt} {v : List Bool} {m : List Cl} {N : Nat} (hr : ∀ c ∈ m, 0 ≤ c.1 ∧ c.1 < (N : Int)) : ∀ z ∈ valL g v m, 0 ≤ z ∧ z < (N : Int) := fun z hz => by
 obtain ⟨c, hc, _, rfl⟩ := mem_val.1 hz
 exact hr c hc
theorem pow_9 {n k : Nat} (hn : n ≤ 3) (hk : k ≤ 2) : n ^ k ≤ 9 := by
 have h1 : n ^ k ≤ 3 ^ k := Nat.pow_le_pow_left hn _
 have h2 : 3 ^ k ≤ 3 ^ 2 := Nat.pow_le_pow_right (by omega) hk
 omega
theorem products_calls (s bt : Nat) (l : List Stp) (X Y : List Nat) (nl nx ny : Nat) (sa xa ya : Option Addr) (sc xc yc : Nat) (w : World) (hs : s < 256) (hbt : bt < 256) (hnl : l.length = nl) (hnx : X.length = nx) (hny : Y.length = ny)
  (hl : StpsW w sa sc l) (ho : ∀ s ∈ l, StpOk s) (hx : U8W w xa xc X) (hxb : ∀ z ∈ X, z < 256) (hxm : (X.length : Int) ≤ 9223372036854775807) (hy : U8W w ya yc Y) (hyb : ∀ z ∈ Y, z < 256) (hym : (Y.length : Int) ≤ 9223372036854775807) :
  Calls Tryz.prog 3 #[.int .u8 (s : Int), .slice sa nl sc, .slice xa nx xc, .slice ya ny yc, .int .u8 (bt : Int)] w fun e w' => e = .returned (.bool true) ∧ w.grownBy w' none := by
 have HG := hid (grown_refl w none)
 have HA := hid (fun (U : World) => atoms_calls s hs U)
 obtain ⟨n, hn⟩ : ∃ z, s % 3 + 1 = z := ⟨_, rfl⟩
 obtain ⟨k, hk⟩ : ∃ z, s / 3 % 2 + 1 = z := ⟨_, rfl⟩
 obtain ⟨j, hj⟩ : ∃ z, s / 6 % 2 + 1 = z := ⟨_, rfl⟩
 rw [hn, hk, hj] at HA
 have HNK := hid (show 1 ≤ n ∧ n ≤ 3 ∧ 1 ≤ k ∧ k ≤ 2 ∧ 1 ≤ j ∧ j ≤ 2 from by omega)
 clear hn hk hj
 have HL := hid hl
 have HX := hid hx
 have HY := hid hy
 have HSO := hid ho
 have HXB := hid (And.intro hxb hxm)
 have HYB := hid (And.intro hyb hym)
 have HLN := hid (And.intro hnl (And.intro hnx hny))
 clear hl hx hy ho hxb hxm hyb hym hnl hnx hny hs
 have HV := hid (fun (U : World) => values_calls bt hbt U)
 go_enter Tryz.func3, Tryz.ntmps3
 go_wp2_with fail
 refine (head_calls _).mono ?_
 rintro e V1 ⟨rfl, g⟩
 replace HL := hid (HL.out.grown g)
 replace HX := hid (HX.out.grown g)
 replace HY := hid (HY.out.grown g)
 replace HG := hid (gT HG.out g)
 clear g
 by_cases hbig : 20 < nl
 ·
  have f1 : decide (20 < nl) = true := decide_eq_true hbig
  have f2 : decide ((20 : Int) < (nl : Int)) = true := decide_eq_true (by omega)
  go_wp2_with fail
  go_ret
  exact ⟨rfl, HG.out⟩
 have f1 : decide (20 < nl) = false := decide_eq_false hbig
 have f2 : decide ((20 : Int) < (nl : Int)) = false := decide_eq_false (by omega)
 obtain ⟨qb, hqb⟩ : ∃ z, buildC l = z := ⟨_, rfl⟩
 obtain ⟨g, refs⟩ := qb
 have hbu := built l (by rw [HLN.out.1]; omega)
 rw [hqb] at hbu
 have HBU := hid (show Good g ∧ g.length ≤ 61 ∧ refs.length ≤ 20 ∧ ∀ r ∈ refs, Ok g r from ⟨hbu.good, by have h1 := hbu.len; have h2 := HLN.out.1; simp only at h1; omega, by have h1 := hbu.refs; have h2 := HLN.out.1; simp only at h1; omega, hbu.ok⟩)
 have HBC := hid (rbuild_calls l sa sc V1 hqb HL.out (by rw [HLN.out.1]; omega) HSO.out)
 rw [HLN.out.1] at HBC
 clear hqb hbu hbig
 go_wp2_with fail
 clear f1 f2
 refine HBC.out.mono ?_
 rintro e V2 ⟨a0, c0, ra, rc, rfl, hr, hrr, g1⟩
 clear HBC
 replace HL := hid (HL.out.grown g1)
 replace HX := hid (HX.out.grown g1)
 replace HY := hid (HY.out.grown g1)
 replace HG := hid (gT HG.out g1)
 clear g1
 have HR := hid hrr
 clear hrr
 go_upto_region 5 with fail
 have hb := CB.new hr
 have gw := gAl V2 (.cells #[.slice a0 g.length c0] 27) none
 obtain ⟨V3, hV3⟩ : ∃ z, World.alloc V2 (.cells #[.slice a0 g.length c0] 27) = z := ⟨_, rfl⟩
 have hsV3 : V3.heap.size = V2.heap.size + 1 := by rw [← hV3]; simp
 rw [hV3] at gw hb ⊢
 clear hV3
 obtain ⟨bc, hbb⟩ : ∃ b, V2.heap.size = b := ⟨_, rfl⟩
 rw [hbb] at hb hsV3 ⊢
 clear hbb
 replace HL := hid (HL.out.grown gw)
 replace HX := hid (HX.out.grown gw)
 replace HY := hid (HY.out.grown gw)
 replace HR := hid (HR.out.grown gw)
 replace HG := hid (gT HG.out gw)
 clear gw
 have Hc := hid hb
 clear hb
 clear hr hsV3
 have qc := Hc.out.1
 go_wp2_with fail
 clear qc
 refine (HA.out _).mono ?_
 rintro e w9 ⟨rfl, hw9⟩
 rw [hw9]
 clear hw9 w9
 have qc := Hc.out.1
 go_wp2_with fail
 clear qc
 have hm := made_calls refs n k X ra rc xa xc V3 HR.out HX.out (by have := HBU.out; omega) (by have := HXB.out.2; omega) (fun r hr => by have h1 := HBU.out.2.2.2 r hr; have h2 := HBU.out.2.1; unfold Ok at h1; omega) HXB.out.1 (by have := HNK.out; omega) HNK.out.1 (by have := HNK.out; omega) (by have := HNK.out; omega)
 rw [HLN.out.2.1] at hm
 obtain ⟨tA, htA⟩ : ∃ z, min (n ^ k) nx = z := ⟨_, rfl⟩
 rw [htA] at hm
 have hM := made_mat HBU.out.1.pos HBU.out.2.2.2 X tA
 have hR := (madeC_all refs X tA).2
 have hK := madeC_len refs X tA
 obtain ⟨A, hA⟩ : ∃ z, madeC refs X tA = z := ⟨_, rfl⟩
 rw [hA] at hm hM hR hK
 have hT : tA ≤ n ^ k := by rw [← htA]; exact Nat.min_le_left _ _
 have hT9 : n ^ k ≤ 9 := by have h1 : n ^ k ≤ 3 ^ k := Nat.pow_le_pow_left HNK.out.2.1 _; have h2 : 3 ^ k ≤ 3 ^ 2 := Nat.pow_le_pow_right (by omega) (by have := HNK.out; omega); omega
 have HMA := hid (show Mat g A ∧ A.length ≤ 9 ∧ ∀ c ∈ A, 0 ≤ c.1 ∧ c.1 < ((n ^ k : Nat) : Int) from ⟨hM, by omega, fun c hc => ⟨(hR c hc).1, by have h1 := (hR c hc).2.1; omega⟩⟩)
 clear hM hR hK hT hT9 htA hA
 refine hm.mono ?_
 rintro e V4 ⟨aA, cA, mA, rfl, hlA, hr, g1⟩
 clear hm
 replace Hc := hid (Hc.out.grown g1)
 replace HL := hid (HL.out.grown g1)
 replace HX := hid (HX.out.grown g1)
 replace HY := hid (HY.out.grown g1)
 replace HR := hid (HR.out.grown g1)
 replace HG := hid (gT HG.out g1)
 clear g1
 have qc := Hc.out.1
 go_upto_region 7 with fail
 clear qc
 have hb := XB.new (k : Int) hr hlA
 have gw := gAl V4 (.cells #[.int .i64 (k : Int), .slice aA mA cA] 35) none
 obtain ⟨V5, hV5⟩ : ∃ z, World.alloc V4 (.cells #[.int .i64 (k : Int), .slice aA mA cA] 35) = z := ⟨_, rfl⟩
 have hsV5 : V5.heap.size = V4.heap.size + 1 := by rw [← hV5]; simp
 rw [hV5] at gw hb ⊢
 clear hV5
 obtain ⟨ba, hbb⟩ : ∃ b, V4.heap.size = b := ⟨_, rfl⟩
 rw [hbb] at hb hsV5 ⊢
 clear hbb
 replace Hc := hid (Hc.out.grown gw)
 replace HL := hid (HL.out.grown gw)
 replace HX := hid (HX.out.grown gw)
 replace HY := hid (HY.out.grown gw)
 replace HR := hid (HR.out.grown gw)
 replace HG := hid (gT HG.out gw)
 clear gw
 have Ha := hid hb
 clear hb
 clear hr hlA hsV5
 have qc := Hc.out.1
 have qa := Ha.out.1
 have ra := Ha.out.2.1
 go_wp2_with fail
 clear qc qa ra
 have hm := made_calls refs n j Y ra rc ya yc V5 HR.out HY.out (by have := HBU.out; omega) (by have := HYB.out.2; omega) (fun r hr => by have h1 := HBU.out.2.2.2 r hr; have h2 := HBU.out.2.1; unfold Ok at h1; omega) HYB.out.1 (by have := HNK.out; omega) HNK.out.1 (by have := HNK.out; omega) (by have := HNK.out; omega)
 rw [HLN.out.2.2] at hm
 obtain ⟨tB, htB⟩ : ∃ z, min (n ^ j) ny = z := ⟨_, rfl⟩
 rw [htB] at hm
 have hM := made_mat HBU.out.1.pos HBU.out.2.2.2 Y tB
 have hR := (madeC_all refs Y tB).2
 have hK := madeC_len refs Y tB
 obtain ⟨B, hB⟩ : ∃ z, madeC refs Y tB = z := ⟨_, rfl⟩
 rw [hB] at hm hM hR hK
 have hT : tB ≤ n ^ j := by rw [← htB]; exact Nat.min_le_left _ _
 have hT9 : n ^ j ≤ 9 := by have h1 : n ^ j ≤ 3 ^ j := Nat.pow_le_pow_left HNK.out.2.1 _; have h2 : 3 ^ j ≤ 3 ^ 2 := Nat.pow_le_pow_right (by omega) (by have := HNK.out; omega); omega
 have HMB := hid (show Mat g B ∧ B.length ≤ 9 ∧ ∀ c ∈ B, 0 ≤ c.1 ∧ c.1 < ((n ^ j : Nat) : Int) from ⟨hM, by omega, fun c hc => ⟨(hR c hc).1, by have h1 := (hR c hc).2.1; omega⟩⟩)
 clear hM hR hK hT hT9 htB hB
 refine hm.mono ?_
 rintro e V6 ⟨aB, cB, mB, rfl, hlB, hr, g1⟩
 clear hm
 replace Hc := hid (Hc.out.grown g1)
 replace Ha := hid (Ha.out.grown g1)
 replace HL := hid (HL.out.grown g1)
 replace HX := hid (HX.out.grown g1)
 replace HY := hid (HY.out.grown g1)
 replace HR := hid (HR.out.grown g1)
 replace HG := hid (gT HG.out g1)
 clear g1
 have qc := Hc.out.1
 have qa := Ha.out.1
 have ra := Ha.out.2.1
 go_upto_region 8 with fail
 clear qc qa ra
 have hb := XB.new (j : Int) hr hlB
 have gw := gAl V6 (.cells #[.int .i64 (j : Int), .slice aB mB cB] 35) none
 obtain ⟨V7, hV7⟩ : ∃ z, World.alloc V6 (.cells #[.int .i64 (j : Int), .slice aB mB cB] 35) = z := ⟨_, rfl⟩
 have hsV7 : V7.heap.size = V6.heap.size + 1 := by rw [← hV7]; simp
 rw [hV7] at gw hb ⊢
 clear hV7
 obtain ⟨bb, hbb⟩ : ∃ b, V6.heap.size = b := ⟨_, rfl⟩
 rw [hbb] at hb hsV7 ⊢
 clear hbb
 replace Hc := hid (Hc.out.grown gw)
 replace Ha := hid (Ha.out.grown gw)
 replace HL := hid (HL.out.grown gw)
 replace HX := hid (HX.out.grown gw)
 replace HY := hid (HY.out.grown gw)
 replace HR := hid (HR.out.grown gw)
 replace HG := hid (gT HG.out gw)
 clear gw
 have Hb := hid hb
 clear hb
 clear hr hlB hsV7
 have qc := Hc.out.1
 have qa := Ha.out.1
 have ra := Ha.out.2.1
 have qb := Hb.out.1
 have rb := Hb.out.2.1
 go_wp2_with fail
 clear qc qa ra qb rb
 refine (HV.out _).mono ?_
 rintro e V8 ⟨av, cv, rfl, hv, g1⟩
 obtain ⟨vs, hvs⟩ : ∃ z, valsL bt = z := ⟨_, rfl⟩
 have HVL := hid (show vs.length = 8 from by rw [← hvs]; exact valsL_len bt)
 rw [hvs] at hv
 clear hvs HV
 replace Hc := hid (Hc.out.grown g1)
 replace Ha := hid (Ha.out.grown g1)
 replace Hb := hid (Hb.out.grown g1)
 replace HL := hid (HL.out.grown g1)
 replace HX := hid (HX.out.grown g1)
 replace HY := hid (HY.out.grown g1)
 replace HR := hid (HR.out.grown g1)
 replace HG := hid (gT HG.out g1)
 clear g1
 have HVV := hid hv
 clear hv
 have qc := Hc.out.1
 have qa := Ha.out.1
 have ra := Ha.out.2.1
 have qb := Hb.out.1
 have rb := Hb.out.2.1
 go_wp2_with fail
 clear qc qa ra qb rb
 refine (value_at (k : Int) Ha.out.2.2.1 HVL.out HBU.out.1 (by have := HBU.out; omega) (fun c hc => (HMA.out.1.2 c hc).1) (by have h1 := HMA.out.2.1; have h2 := Ha.out.2.2.1; omega) Hc.out.2.2 Ha.out.2.2.2 HVV.out).mono ?_
 rintro e V9 ⟨aP, nP, cP, rfl, hlr, hr, g1⟩
 replace Hc := hid (Hc.out.grown g1)
 replace Ha := hid (Ha.out.grown g1)
 replace Hb := hid (Hb.out.grown g1)
 replace HL := hid (HL.out.grown g1)
 replace HX := hid (HX.out.grown g1)
 replace HY := hid (HY.out.grown g1)
 replace HR := hid (HR.out.grown g1)
 replace HVV := hid (HVV.out.grown g1)
 replace HG := hid (gT HG.out g1)
 clear g1
 obtain ⟨P, hP⟩ : ∃ z, valL g vs A = z := ⟨_, rfl⟩
 rw [hP] at hlr hr
 have HEP := hid hP
 clear hP
 have qc := Hc.out.1
 have qa := Ha.out.1
 have ra := Ha.out.2.1
 have qb := Hb.out.1
 have rb := Hb.out.2.1
 go_upto_region 10 with fail
 clear qc qa ra qb rb
 have hb := YB.new (k : Int) hr hlr
 have gw := gAl V9 (.cells #[.int .i64 (k : Int), .slice aP nP cP] 40) none
 obtain ⟨V10, hV10⟩ : ∃ z, World.alloc V9 (.cells #[.int .i64 (k : Int), .slice aP nP cP] 40) = z := ⟨_, rfl⟩
 have hsV10 : V10.heap.size = V9.heap.size + 1 := by rw [← hV10]; simp
 rw [hV10] at gw hb ⊢
 clear hV10
 obtain ⟨bp, hbb⟩ : ∃ b, V9.heap.size = b := ⟨_, rfl⟩
 rw [hbb] at hb hsV10 ⊢
 clear hbb
 replace Hc := hid (Hc.out.grown gw)
 replace Ha := hid (Ha.out.grown gw)
 replace Hb := hid (Hb.out.grown gw)
 replace HL := hid (HL.out.grown gw)
 replace HX := hid (HX.out.grown gw)
 replace HY := hid (HY.out.grown gw)
 replace HR := hid (HR.out.grown gw)
 replace HVV := hid (HVV.out.grown gw)
 replace HG := hid (gT HG.out gw)
 clear gw
 have Hp := hid hb
 clear hb
 clear hr hlr hsV10
 have qc := Hc.out.1
 have qa := Ha.out.1
 have ra := Ha.out.2.1
 have qb := Hb.out.1
 have rb := Hb.out.2.1
 have qp := Hp.out.1
 have rp := Hp.out.2.1
 go_wp2_with fail
 clear qc qa ra qb rb qp rp
 refine (value_at (j : Int) Hb.out.2.2.1 HVL.out HBU.out.1 (by have := HBU.out; omega) (fun c hc => (HMB.out.1.2 c hc).1) (by have h1 := HMB.out.2.1; have h2 := Hb.out.2.2.1; omega) Hc.out.2.2 Hb.out.2.2.2 HVV.out).mono ?_
 rintro e V11 ⟨aQ, nQ, cQ, rfl, hlr, hr, g1⟩
 replace Hc := hid (Hc.out.grown g1)
 replace Ha := hid (Ha.out.grown g1)
 replace Hb := hid (Hb.out.grown g1)
 replace Hp := hid (Hp.out.grown g1)
 replace HL := hid (HL.out.grown g1)
 replace HX := hid (HX.out.grown g1)
 replace HY := hid (HY.out.grown g1)
 replace HR := hid (HR.out.grown g1)
 replace HVV := hid (HVV.out.grown g1)
 replace HG := hid (gT HG.out g1)
 clear g1
 obtain ⟨Q, hQ⟩ : ∃ z, valL g vs B = z := ⟨_, rfl⟩
 rw [hQ] at hlr hr
 have HEQ := hid hQ
 clear hQ
 have qc := Hc.out.1
 have qa := Ha.out.1
 have ra := Ha.out.2.1
 have qb := Hb.out.1
 have rb := Hb.out.2.1
 have qp := Hp.out.1
 have rp := Hp.out.2.1
 go_upto_region 11 with fail
 clear qc qa ra qb rb qp rp
 have hb := YB.new (j : Int) hr hlr
 have gw := gAl V11 (.cells #[.int .i64 (j : Int), .slice aQ nQ cQ] 40) none
 obtain ⟨V12, hV12⟩ : ∃ z, World.alloc V11 (.cells #[.int .i64 (j : Int), .slice aQ nQ cQ] 40) = z := ⟨_, rfl⟩
 have hsV12 : V12.heap.size = V11.heap.size + 1 := by rw [← hV12]; simp
 rw [hV12] at gw hb ⊢
 clear hV12
 obtain ⟨bq, hbb⟩ : ∃ b, V11.heap.size = b := ⟨_, rfl⟩
 rw [hbb] at hb hsV12 ⊢
 clear hbb
 replace Hc := hid (Hc.out.grown gw)
 replace Ha := hid (Ha.out.grown gw)
 replace Hb := hid (Hb.out.grown gw)
 replace Hp := hid (Hp.out.grown gw)
 replace HL := hid (HL.out.grown gw)
 replace HX := hid (HX.out.grown gw)
 replace HY := hid (HY.out.grown gw)
 replace HR := hid (HR.out.grown gw)
 replace HVV := hid (HVV.out.grown gw)
 replace HG := hid (gT HG.out gw)
 clear gw
 have Hq := hid hb
 clear hb
 clear hr hlr hsV12
 have HPX := hid (show (∀ z ∈ P, 0 ≤ z ∧ z < ((n ^ k : Nat) : Int)) ∧ (∀ z ∈ Q, 0 ≤ z ∧ z < ((n ^ j : Nat) : Int)) ∧ nP ≤ 9 ∧ nQ ≤ 9 ∧ n ^ k ≤ 9 ∧ n ^ j ≤ 9 ∧ Up P ∧ Up Q from ⟨by rw [← HEP.out]; exact vals_in HMA.out.2.2, by rw [← HEQ.out]; exact vals_in HMB.out.2.2, by rw [← Hp.out.2.2.1, ← HEP.out]; exact Nat.le_trans vals_len HMA.out.2.1, by rw [← Hq.out.2.2.1, ← HEQ.out]; exact Nat.le_trans vals_len HMB.out.2.1, pow_9 HNK.out.2.1 HNK.out.2.2.2.1, pow_9 HNK.out.2.1 HNK.out.2.2.2.2.2, by rw [← HEP.out]; exact val_up HMA.out.1.1 vs, by rw [← HEQ.out]; exact val_up HMB.out.1.1 vs⟩)
 have hk9 : k ≤ 2 := HNK.out.2.2.2.1
 have hj9 : j ≤ 2 := HNK.out.2.2.2.2.2
 have qc := Hc.out.1
 have qa := Ha.out.1
 have ra := Ha.out.2.1
 have qb := Hb.out.1
 have rb := Hb.out.2.1
 have qp := Hp.out.1
 have rp := Hp.out.2.1
 have qq := Hq.out.1
 have rq := Hq.out.2.1
 go_upto_if 69 with fail
 clear qc qa ra qb rb qp rp qq rq
 have HG0 := HG
 replace HG := hid (grown_refl V12 none)
 go_cut [] (fun wx => World.grownBy V12 wx none)
 case first =>
  by_cases hc1 : 2 < k + j
  ·
   have f1 : decide ((2 : Int) < (k : Int) + (j : Int)) = true := decide_eq_true (by omega)
   have qc := Hc.out.1
   have qa := Ha.out.1
   have ra := Ha.out.2.1
   have qb := Hb.out.1
   have rb := Hb.out.2.1
   have qp := Hp.out.1
   have rp := Hp.out.2.1
   have qq := Hq.out.1
   have rq := Hq.out.2.1
   go_upto_region 12 with fail
   clear qc qa ra qb rb qp rp qq rq
   clear f1
   obtain ⟨rest, hrest⟩ : ∃ z, n ^ (j - 1) = z := ⟨_, rfl⟩
   obtain ⟨rr, hrr⟩ : ∃ z, k + j - 2 = z := ⟨_, rfl⟩
   have har : (k : Int) + (j : Int) - 2 = (rr : Int) := by have := HNK.out; omega
   have HAR := hid (show 1 ≤ rr ∧ rr ≤ 2 from by have := HNK.out; omega)
   have h81 : A.length * B.length ≤ 9 * 9 := Nat.mul_le_mul HMA.out.2.1 HMB.out.2.1
   obtain ⟨qj, hqj⟩ : ∃ z, (mjoinP (n : Int) ((n ^ (j - 1) : Nat) : Int) (n ^ (k + j - 2)) A B).run g = z := ⟨_, rfl⟩
   obtain ⟨gj, mj⟩ := qj
   have o := mjoin_val HBU.out.1 HMA.out.1 HMB.out.1 (by have := HBU.out; omega) HNK.out.1 HNK.out.2.2.1 HNK.out.2.2.2.2.1 HMA.out.2.2 HMB.out.2.2 vs hqj
   have hjl := jr_lt (n := n) (k := k) (j := j) HNK.out.1 HNK.out.2.2.1 HNK.out.2.2.2.2.1 HMA.out.2.2 HMB.out.2.2
   rw [HEP.out, HEQ.out, hrest, hrr] at o
   rw [hrest, hrr] at hjl hqj
   have h9r : n ^ rr ≤ 9 := pow_9 HNK.out.2.1 HAR.out.2
   have hcj := mjoin_calls g A B n k j rest (n ^ rr) gj mj a0 c0 aA mA cA aB mB cB V12 hqj Hc.out.2.2 Ha.out.2.2.2 Ha.out.2.2.1 Hb.out.2.2.2 Hb.out.2.2.1 HBU.out.1 HMA.out.1 HMB.out.1 (by rw [← Ha.out.2.2.1, ← Hb.out.2.2.1]; have := HBU.out; omega) (by have := HMA.out.2.1; have := Ha.out.2.2.1; omega) (by have := HMB.out.2.1; have := Hb.out.2.2.1; omega) HNK.out.1 (by have := HNK.out; omega) HNK.out.2.2.2.2.1 (by have := HNK.out; omega) (by have := HNK.out; omega) hrest.symm (by omega) (fun c hc => by have h1 := HMA.out.2.2 c hc; have := HPX.out.2.2.2.2.1; omega) (fun c hc => by have h1 := HMB.out.2.2 c hc; have := HPX.out.2.2.2.2.2.1; omega) hjl
   rw [har] at hcj
   obtain ⟨J, hJ⟩ : ∃ z, uniq (joinP n rest P Q) = z := ⟨_, rfl⟩
   rw [hJ] at o
   obtain ⟨nJ, hnJ⟩ : ∃ z, J.length = z := ⟨_, rfl⟩
   have hml := upM_len o.2.2.1 o.2.2.2.1
   have HUJ := hid (show Good gj ∧ gj.length ≤ 300 ∧ Mat gj mj ∧ (∀ c ∈ mj, 0 ≤ c.1) ∧ mj.length ≤ 81 ∧ valL gj vs mj = J from ⟨o.1, by have h1 := o.2.1; have := HBU.out; omega, o.2.2.1, fun c hc => (o.2.2.2.1 c hc).1, by omega, o.2.2.2.2⟩)
   have HJL := hid (show J.length = nJ ∧ nJ ≤ 81 from ⟨hnJ, by rw [← hnJ, ← o.2.2.2.2]; exact Nat.le_trans vals_len (by omega)⟩)
   have hwf : ∀ z ∈ joinP n (n ^ (j - 1)) P Q, (Lit.int .i64 z).wf = true := fun z hz => by
    rw [hrest] at hz
    have h1 : z ∈ J := by rw [← hJ]; exact mem_uniq.2 hz
    rw [← o.2.2.2.2] at h1
    have h2 := vals_in o.2.2.2.1 z h1
    exact wfK_small h2.1 (by omega)
   have hrj := fun (U : World) (b d : Option Addr) (x y : Nat) (h1 : IntsW U b x P) (h2 : IntsW U d y Q) => join_span n k j P Q b d x y U h1 h2 (by have := Hp.out.2.2.1; have := HPX.out; omega) (by have := Hq.out.2.2.1; have := HPX.out; omega) HNK.out.1 (by have := HNK.out; omega) HNK.out.2.2.2.2.1 (by have := HNK.out; omega) (by omega) (by have := HNK.out; omega) (fun x hx => by have := HPX.out.1 x hx; have := HPX.out; omega) (fun x hx => by have := HPX.out.2.1 x hx; have := HPX.out; omega) hwf
   rw [Hp.out.2.2.1, Hq.out.2.2.1, hrest, hrr, hJ, hnJ] at hrj
   have HRJ := hid hrj
   have HCJ := hid hcj
   clear hrest hrr har h81 hqj o hjl h9r hcj hJ hnJ hml hwf hrj
   have qc := Hc.out.1
   have qa := Ha.out.1
   have ra := Ha.out.2.1
   have qb := Hb.out.1
   have rb := Hb.out.2.1
   have qp := Hp.out.1
   have rp := Hp.out.2.1
   have qq := Hq.out.1
   have rq := Hq.out.2.1
   go_wp2_with fail
   clear qc qa ra qb rb qp rp qq rq
   refine (HCJ.out).mono ?_
   rintro e V13 ⟨ad, cd, ae, ne, ce, rfl, hn, hr, hm, g1⟩
   replace Hc := hid (Hc.out.grown g1)
   replace Ha := hid (Ha.out.grown g1)
   replace Hb := hid (Hb.out.grown g1)
   replace Hp := hid (Hp.out.grown g1)
   replace Hq := hid (Hq.out.grown g1)
   replace HL := hid (HL.out.grown g1)
   replace HX := hid (HX.out.grown g1)
   replace HY := hid (HY.out.grown g1)
   replace HR := hid (HR.out.grown g1)
   replace HVV := hid (HVV.out.grown g1)
   replace HG := hid (gT HG.out g1)
   clear g1
   have qc := Hc.out.1
   have qa := Ha.out.1
   have ra := Ha.out.2.1
   have qb := Hb.out.1
   have rb := Hb.out.2.1
   have qp := Hp.out.1
   have rp := Hp.out.2.1
   have qq := Hq.out.1
   have rq := Hq.out.2.1
   go_upto_region 13 with fail
   clear qc qa ra qb rb qp rp qq rq
   have h1 := CB.new hr
   have gw := gAl V13 (.cells #[.slice ad gj.length cd] 27) none
   obtain ⟨V14, hU⟩ : ∃ z, World.alloc V13 (.cells #[.slice ad gj.length cd] 27) = z := ⟨_, rfl⟩
   have hsU : V14.heap.size = V13.heap.size + 1 := by rw [← hU]; simp
   rw [hU] at gw h1 ⊢
   clear hU
   obtain ⟨bd, hbb⟩ : ∃ b, V13.heap.size = b := ⟨_, rfl⟩
   rw [hbb] at h1 hsU ⊢
   clear hbb
   replace hm := hm.grown gw
   replace Hc := hid (Hc.out.grown gw)
   replace Ha := hid (Ha.out.grown gw)
   replace Hb := hid (Hb.out.grown gw)
   replace Hp := hid (Hp.out.grown gw)
   replace Hq := hid (Hq.out.grown gw)
   replace HL := hid (HL.out.grown gw)
   replace HX := hid (HX.out.grown gw)
   replace HY := hid (HY.out.grown gw)
   replace HR := hid (HR.out.grown gw)
   replace HVV := hid (HVV.out.grown gw)
   replace HG := hid (gT HG.out gw)
   clear gw
   have hb := XB.new (rr : Int) hm hn
   have gw := gAl V14 (.cells #[.int .i64 (rr : Int), .slice ae ne ce] 35) none
   obtain ⟨V15, hU⟩ : ∃ z, World.alloc V14 (.cells #[.int .i64 (rr : Int), .slice ae ne ce] 35) = z := ⟨_, rfl⟩
   rw [hU] at gw hb ⊢
   clear hU
   rw [hsU] at hb
   clear hsU
   obtain ⟨be, hbb⟩ : ∃ b, bd + 1 = b := ⟨_, rfl⟩
   rw [hbb] at hb ⊢
   clear hbb
   replace h1 := h1.grown gw
   replace Hc := hid (Hc.out.grown gw)
   replace Ha := hid (Ha.out.grown gw)
   replace Hb := hid (Hb.out.grown gw)
   replace Hp := hid (Hp.out.grown gw)
   replace Hq := hid (Hq.out.grown gw)
   replace HL := hid (HL.out.grown gw)
   replace HX := hid (HX.out.grown gw)
   replace HY := hid (HY.out.grown gw)
   replace HR := hid (HR.out.grown gw)
   replace HVV := hid (HVV.out.grown gw)
   replace HG := hid (gT HG.out gw)
   clear gw
   have Hd := hid h1
   clear h1
   have He := hid hb
   clear hb
   clear hr hm hn
   have qc := Hc.out.1
   have qa := Ha.out.1
   have ra := Ha.out.2.1
   have qb := Hb.out.1
   have rb := Hb.out.2.1
   have qp := Hp.out.1
   have rp := Hp.out.2.1
   have qq := Hq.out.1
   have rq := Hq.out.2.1
   have qd := Hd.out.1
   have qe := He.out.1
   have re := He.out.2.1
   go_wp2_with fail
   clear qc qa ra qb rb qp rp qq rq qd qe re
   refine (HRJ.out _ _ _ _ _ Hp.out.2.2.2 Hq.out.2.2.2).mono ?_
   rintro e V16 ⟨aJ, cJ, rfl, hsp, g1⟩
   have hr := hsp.here
   clear hsp
   replace Hc := hid (Hc.out.grown g1)
   replace Ha := hid (Ha.out.grown g1)
   replace Hb := hid (Hb.out.grown g1)
   replace Hp := hid (Hp.out.grown g1)
   replace Hq := hid (Hq.out.grown g1)
   replace Hd := hid (Hd.out.grown g1)
   replace He := hid (He.out.grown g1)
   replace HL := hid (HL.out.grown g1)
   replace HX := hid (HX.out.grown g1)
   replace HY := hid (HY.out.grown g1)
   replace HR := hid (HR.out.grown g1)
   replace HVV := hid (HVV.out.grown g1)
   replace HG := hid (gT HG.out g1)
   clear g1
   have qc := Hc.out.1
   have qa := Ha.out.1
   have ra := Ha.out.2.1
   have qb := Hb.out.1
   have rb := Hb.out.2.1
   have qp := Hp.out.1
   have rp := Hp.out.2.1
   have qq := Hq.out.1
   have rq := Hq.out.2.1
   have qd := Hd.out.1
   have qe := He.out.1
   have re := He.out.2.1
   go_upto_region 14 with fail
   clear qc qa ra qb rb qp rp qq rq qd qe re
   have hb := YB.new (rr : Int) hr HJL.out.1
   have gw := gAl V16 (.cells #[.int .i64 (rr : Int), .slice aJ nJ cJ] 40) none
   obtain ⟨V17, hV17⟩ : ∃ z, World.alloc V16 (.cells #[.int .i64 (rr : Int), .slice aJ nJ cJ] 40) = z := ⟨_, rfl⟩
   have hsV17 : V17.heap.size = V16.heap.size + 1 := by rw [← hV17]; simp
   rw [hV17] at gw hb ⊢
   clear hV17
   obtain ⟨bt, hbb⟩ : ∃ b, V16.heap.size = b := ⟨_, rfl⟩
   rw [hbb] at hb hsV17 ⊢
   clear hbb
   replace Hc := hid (Hc.out.grown gw)
   replace Ha := hid (Ha.out.grown gw)
   replace Hb := hid (Hb.out.grown gw)
   replace Hp := hid (Hp.out.grown gw)
   replace Hq := hid (Hq.out.grown gw)
   replace Hd := hid (Hd.out.grown gw)
   replace He := hid (He.out.grown gw)
   replace HL := hid (HL.out.grown gw)
   replace HX := hid (HX.out.grown gw)
   replace HY := hid (HY.out.grown gw)
   replace HR := hid (HR.out.grown gw)
   replace HVV := hid (HVV.out.grown gw)
   replace HG := hid (gT HG.out gw)
   clear gw
   have Ht := hid hb
   clear hb
   clear hr hsV17
   have HS := hid (fun (Wh : World) (hWh : V17.grownBy Wh none) => (⟨hWh, hWh.cell Hd.out.1 (by simp), hWh.cell He.out.1 (by simp), hWh.cell He.out.2.1 (by simp), hWh.cell Ht.out.1 (by simp), hWh.cell Ht.out.2.1 (by simp)⟩ : (fun Wh : World => V17.grownBy Wh none ∧ Wh.cell? ⟨bd, 0, none⟩ = some (.slice ad gj.length cd) ∧ Wh.cell? ⟨be, 0, none⟩ = some (.int .i64 (rr : Int)) ∧ Wh.cell? ⟨be, 1, none⟩ = some (.slice ae ne ce) ∧ Wh.cell? ⟨bt, 0, none⟩ = some (.int .i64 (rr : Int)) ∧ Wh.cell? ⟨bt, 1, none⟩ = some (.slice aJ nJ cJ)) Wh))
   have hdr : V17.grownBy V17.drew none := ⟨rfl, rfl, rfl, Nat.le_refl _, fun _ _ _ => rfl⟩
   refine wp_region_held_drew (S := (fun Wh : World => V17.grownBy Wh none ∧ Wh.cell? ⟨bd, 0, none⟩ = some (.slice ad gj.length cd) ∧ Wh.cell? ⟨be, 0, none⟩ = some (.int .i64 (rr : Int)) ∧ Wh.cell? ⟨be, 1, none⟩ = some (.slice ae ne ce) ∧ Wh.cell? ⟨bt, 0, none⟩ = some (.int .i64 (rr : Int)) ∧ Wh.cell? ⟨bt, 1, none⟩ = some (.slice aJ nJ cJ))) (by kernel_rfl) (HS.out _ hdr) (fun hH => ?_)
   refine tq 0 ({ dst := some 85, op := Op.move (Operand.tmp 25), type := 44, pos := "law.go:172", after := #[], guard := none }) ?_ ?_ hH ?_
   rotate_left 1
   · (intro W h; go_simp <;> with_reducible rfl)
   try simp only [Act.put, sA, sB, sC]
   refine tq 1 ({ dst := some 86, op := Op.binOp BinOp.neq 44 (Operand.tmp 85) (Operand.const (Value.int IntKind.i64 0)) 44, type := 4, pos := "law.go:172", after := #[{ on := 0, ground := Ground.data }], guard := none }) ?_ ?_ hH ?_
   rotate_left 1
   · (intro W h; go_simp <;> with_reducible rfl)
   try simp only [Act.put, sA, sB, sC]
   refine tq 2 ({ dst := some 87, op := Op.move (Operand.tmp 86), type := 4, pos := "law.go:172", after := #[{ on := 1, ground := Ground.data }], guard := none }) ?_ ?_ hH ?_
   rotate_left 1
   · (intro W h; go_simp <;> with_reducible rfl)
   try simp only [Act.put, sA, sB, sC]
   refine tq 3 ({ dst := some 88, op := Op.load 27 (Operand.tmp 22), type := 27, pos := "law.go:172", after := #[{ on := 2, ground := Ground.guard }], guard := some (2, false) }) ?_ ?_ hH ?_
   rotate_left 1
   · (intro W h; go_simp <;> with_reducible rfl)
   try simp only [Act.put, sA, sB, sC]
   refine tq 4 ({ dst := some 89, op := Op.load 35 (Operand.tmp 23), type := 35, pos := "law.go:172", after := #[{ on := 2, ground := Ground.guard }], guard := some (2, false) }) ?_ ?_ hH ?_
   rotate_left 1
   · (intro W h; go_simp <;> with_reducible rfl)
   try simp only [Act.put, sA, sB, sC]
   refine wpAnyH_ready (rs := [5]) (by kernel_rfl) (by simp) ?_
   refine (AllReadyH.cons (o := { dst := some 90, op := Op.call { callee := Callee.value (Operand.func 15), args := #[Operand.tmp 88, Operand.tmp 89], argTypes := #[27, 35] }, type := 4, pos := "law.go:172", after := #[{ on := 3, ground := Ground.data }, { on := 4, ground := Ground.data }, { on := 2, ground := Ground.chain }, { on := 2, ground := Ground.guard }], guard := some (2, false) }) rfl (fun K hK => ?_) AllReadyH.nil)
   rw [if_pos (by rfl)]
   go_simp
   go_at_call 15
   refine (valid14_at HUJ.out.2.2.1 HUJ.out.2.2.2.1 (by have := HAR.out; omega) (by have := HAR.out; omega) He.out.2.2.1 (by have := HUJ.out; omega) (by have := HUJ.out; have := He.out.2.2.1; omega) (He.out.grown hdr).2.2.2).mono ?_
   rintro e wc1_12 ⟨rfl, gc1_12⟩
   have hgr1_12 := gT hdr gc1_12
   go_wp2_with fail
   refine hK.out _ _ (HS.out _ hgr1_12) (fun hH => ?_)
   clear hK K
   try simp only [Act.put, sA, sB, sC]
   refine tq 6 ({ dst := some 91, op := Op.unOp UnOp.not 4 (Operand.tmp 90), type := 4, pos := "law.go:172", after := #[{ on := 5, ground := Ground.data }, { on := 2, ground := Ground.guard }], guard := some (2, false) }) ?_ ?_ hH ?_
   rotate_left 1
   · (intro W h; go_simp <;> with_reducible rfl)
   try simp only [Act.put, sA, sB, sC]
   refine tq 7 ({ dst := some 92, op := Op.pick (Operand.tmp 87) (Operand.const (Value.bool true)) (Operand.tmp 91), type := 4, pos := "law.go:172", after := #[{ on := 2, ground := Ground.data }, { on := 6, ground := Ground.data }], guard := none }) ?_ ?_ hH ?_
   rotate_left 1
   · (intro W h; go_simp <;> with_reducible rfl)
   try simp only [Act.put, sA, sB, sC]
   refine tq 8 ({ dst := some 93, op := Op.move (Operand.tmp 92), type := 4, pos := "law.go:172", after := #[{ on := 7, ground := Ground.data }, { on := 5, ground := Ground.chain }], guard := none }) ?_ ?_ hH ?_
   rotate_left 1
   · (intro W h; go_simp <;> with_reducible rfl)
   try simp only [Act.put, sA, sB, sC]
   refine tq 9 ({ dst := some 94, op := Op.load 27 (Operand.tmp 22), type := 27, pos := "law.go:172", after := #[{ on := 8, ground := Ground.guard }], guard := some (8, false) }) ?_ ?_ hH ?_
   rotate_left 1
   · (intro W h; go_simp <;> with_reducible rfl)
   try simp only [Act.put, sA, sB, sC]
   refine tq 10 ({ dst := some 95, op := Op.load 35 (Operand.tmp 23), type := 35, pos := "law.go:172", after := #[{ on := 8, ground := Ground.guard }], guard := some (8, false) }) ?_ ?_ hH ?_
   rotate_left 1
   · (intro W h; go_simp <;> with_reducible rfl)
   try simp only [Act.put, sA, sB, sC]
   refine tq 11 ({ dst := some 96, op := Op.move (Operand.tmp 19), type := 37, pos := "law.go:172", after := #[{ on := 8, ground := Ground.guard }], guard := some (8, false) }) ?_ ?_ hH ?_
   rotate_left 1
   · (intro W h; go_simp <;> with_reducible rfl)
   try simp only [Act.put, sA, sB, sC]
   refine tq 13 ({ dst := some 98, op := Op.load 40 (Operand.tmp 24), type := 40, pos := "law.go:172", after := #[{ on := 8, ground := Ground.guard }], guard := some (8, false) }) ?_ ?_ hH ?_
   rotate_left 1
   · (intro W h; go_simp <;> with_reducible rfl)
   try simp only [Act.put, sA, sB, sC]
   refine wpAnyH_ready (rs := [12]) (by kernel_rfl) (by simp) ?_
   refine (AllReadyH.cons (o := { dst := some 97, op := Op.call { callee := Callee.value (Operand.func 12), args := #[Operand.tmp 94, Operand.tmp 95, Operand.tmp 96], argTypes := #[27, 35, 37] }, type := 40, pos := "law.go:172", after := #[{ on := 9, ground := Ground.data }, { on := 10, ground := Ground.data }, { on := 11, ground := Ground.data }, { on := 8, ground := Ground.chain }, { on := 8, ground := Ground.guard }], guard := some (8, false) }) rfl (fun K hK => ?_) AllReadyH.nil)
   rw [if_pos (by rfl)]
   go_simp
   go_at_call 12
   refine (value14_at (rr : Int) HUJ.out.2.2.2.2.2 HJL.out.1 He.out.2.2.1 HVL.out HUJ.out.1 (by have := HUJ.out; omega) (fun c hc => (HUJ.out.2.2.1.2 c hc).1) (by have := HUJ.out; have := He.out.2.2.1; omega) (Hd.out.grown hgr1_12).2.2 (He.out.grown hgr1_12).2.2.2 (HVV.out.grown hgr1_12)).mono ?_
   rintro e wc2_12 ⟨bv0, dv0, rfl, hv0, gc2_12⟩
   have hgr2_12 := gT hgr1_12 gc2_12
   go_wp2_with fail
   refine hK.out _ _ (HS.out _ hgr2_12) (fun hH => ?_)
   clear hK K
   try simp only [Act.put, sA, sB, sC]
   refine wpAnyH_ready (rs := [14]) (by kernel_rfl) (by simp) ?_
   refine (AllReadyH.cons (o := { dst := some 99, op := Op.call { callee := Callee.value (Operand.func 16), args := #[Operand.tmp 97, Operand.tmp 98], argTypes := #[40, 40] }, type := 4, pos := "law.go:172", after := #[{ on := 12, ground := Ground.data }, { on := 13, ground := Ground.data }, { on := 12, ground := Ground.chain }, { on := 8, ground := Ground.guard }], guard := some (8, false) }) rfl (fun K hK => ?_) AllReadyH.nil)
   rw [if_pos (by rfl)]
   go_simp
   go_at_call 16
   refine (h_eq_at (rr : Int) HJL.out.1 hv0 (Ht.out.grown hgr2_12).2.2.2 (by have := HJL.out; omega)).mono ?_
   rintro e wc3_12 ⟨rfl, gc3_12⟩
   have hgr3_12 := gT hgr2_12 gc3_12
   go_wp2_with fail
   refine hK.out _ _ (HS.out _ hgr3_12) (fun hH => ?_)
   clear hK K
   try simp only [Act.put, sA, sB, sC]
   refine tq 15 ({ dst := some 100, op := Op.unOp UnOp.not 4 (Operand.tmp 99), type := 4, pos := "law.go:172", after := #[{ on := 14, ground := Ground.data }, { on := 8, ground := Ground.guard }], guard := some (8, false) }) ?_ ?_ hH ?_
   rotate_left 1
   · (intro W h; go_simp <;> with_reducible rfl)
   try simp only [Act.put, sA, sB, sC]
   refine tq 16 ({ dst := some 101, op := Op.pick (Operand.tmp 93) (Operand.const (Value.bool true)) (Operand.tmp 100), type := 4, pos := "law.go:172", after := #[{ on := 8, ground := Ground.data }, { on := 15, ground := Ground.data }], guard := none }) ?_ ?_ hH ?_
   rotate_left 1
   · (intro W h; go_simp <;> with_reducible rfl)
   try simp only [Act.put, sA, sB, sC]
   refine wpAnyH_done (by kernel_rfl) ?_ _
   have hEND := hgr3_12
   clear hH
   have g1 := hEND
   clear hv0 hdr HS
   replace Hc := hid (Hc.out.grown g1)
   replace Ha := hid (Ha.out.grown g1)
   replace Hb := hid (Hb.out.grown g1)
   replace Hp := hid (Hp.out.grown g1)
   replace Hq := hid (Hq.out.grown g1)
   replace Hd := hid (Hd.out.grown g1)
   replace He := hid (He.out.grown g1)
   replace Ht := hid (Ht.out.grown g1)
   replace HL := hid (HL.out.grown g1)
   replace HX := hid (HX.out.grown g1)
   replace HY := hid (HY.out.grown g1)
   replace HR := hid (HR.out.grown g1)
   replace HVV := hid (HVV.out.grown g1)
   replace HG := hid (gT HG.out g1)
   clear g1
   clear HCJ HRJ
   have qc := Hc.out.1
   have qa := Ha.out.1
   have ra := Ha.out.2.1
   have qb := Hb.out.1
   have rb := Hb.out.2.1
   have qp := Hp.out.1
   have rp := Hp.out.2.1
   have qq := Hq.out.1
   have rq := Hq.out.2.1
   have qd := Hd.out.1
   have qe := He.out.1
   have re := He.out.2.1
   have qt := Ht.out.1
   have rt := Ht.out.2.1
   go_wp2_with fail
   clear qc qa ra qb rb qp rp qq rq qd qe re qt rt
   go_meet
   exact HG.out
  ·
   have f1 : decide ((2 : Int) < (k : Int) + (j : Int)) = false := decide_eq_false (by omega)
   have qc := Hc.out.1
   have qa := Ha.out.1
   have ra := Ha.out.2.1
   have qb := Hb.out.1
   have rb := Hb.out.2.1
   have qp := Hp.out.1
   have rp := Hp.out.2.1
   have qq := Hq.out.1
   have rq := Hq.out.2.1
   go_wp2_with fail
   clear qc qa ra qb rb qp rp qq rq
   go_meet
   exact grown_refl V12 none
 case rest =>
  replace HG := HG0
  clear HG0
  obtain ⟨V18, hv9⟩ : ∃ z, z = wc := ⟨_, rfl⟩
  rw [← hv9] at hcut ⊢
  clear hv9
  replace Hc := hid (Hc.out.grown hcut)
  replace Ha := hid (Ha.out.grown hcut)
  replace Hb := hid (Hb.out.grown hcut)
  replace Hp := hid (Hp.out.grown hcut)
  replace Hq := hid (Hq.out.grown hcut)
  replace HL := hid (HL.out.grown hcut)
  replace HX := hid (HX.out.grown hcut)
  replace HY := hid (HY.out.grown hcut)
  replace HR := hid (HR.out.grown hcut)
  replace HVV := hid (HVV.out.grown hcut)
  replace HG := hid (gT HG.out hcut)
  clear hcut
  have qc := Hc.out.1
  have qa := Ha.out.1
  have ra := Ha.out.2.1
  have qb := Hb.out.1
  have rb := Hb.out.2.1
  have qp := Hp.out.1
  have rp := Hp.out.2.1
  have qq := Hq.out.1
  have rq := Hq.out.2.1
  go_upto_if 105 with fail
  clear qc qa ra qb rb qp rp qq rq
  have HG0 := HG
  replace HG := hid (grown_refl V18 none)
  go_cut [] (fun wx => World.grownBy V18 wx none)
  case first =>
   by_cases hc1 : k + j < 4
   ·
    have f1 : decide ((k : Int) + (j : Int) < 4) = true := decide_eq_true (by omega)
    have qc := Hc.out.1
    have qa := Ha.out.1
    have ra := Ha.out.2.1
    have qb := Hb.out.1
    have rb := Hb.out.2.1
    have qp := Hp.out.1
    have rp := Hp.out.2.1
    have qq := Hq.out.1
    have rq := Hq.out.2.1
    go_upto_region 17 with fail
    clear qc qa ra qb rb qp rp qq rq
    clear f1
    obtain ⟨rr, hrr⟩ : ∃ z, k + j = z := ⟨_, rfl⟩
    have har : (k : Int) + (j : Int) = (rr : Int) := by omega
    have HAR := hid (show 1 ≤ rr ∧ rr ≤ 3 from by have := HNK.out; omega)
    have h81 : A.length * B.length ≤ 9 * 9 := Nat.mul_le_mul HMA.out.2.1 HMB.out.2.1
    obtain ⟨qj, hqj⟩ : ∃ z, (mprodP ((n ^ j : Nat) : Int) A B).run g = z := ⟨_, rfl⟩
    obtain ⟨gj, mj⟩ := qj
    have o := mprod_val HBU.out.1 HMA.out.1 HMB.out.1 (by have := HBU.out; omega) HMA.out.2.2 HMB.out.2.2 vs hqj
    rw [HEP.out, HEQ.out] at o
    have hcj := mprod_calls g A B n k j (n ^ j) gj mj a0 c0 aA mA cA aB mB cB V18 hqj Hc.out.2.2 Ha.out.2.2.2 Ha.out.2.2.1 Hb.out.2.2.2 Hb.out.2.2.1 HBU.out.1 HMA.out.1 HMB.out.1 (by rw [← Ha.out.2.2.1, ← Hb.out.2.2.1]; have := HBU.out; omega) (by have := HMA.out.2.1; have := Ha.out.2.2.1; omega) (by have := HMB.out.2.1; have := Hb.out.2.2.1; omega) (by have := HNK.out; omega) (by have := HNK.out; omega) (by have := HNK.out; omega) rfl (fun c hc => by have h1 := HMA.out.2.2 c hc; have := HPX.out.2.2.2.2.1; omega) HMB.out.2.2
    rw [har] at hcj
    obtain ⟨J, hJ⟩ : ∃ z, prodL (n ^ j) P Q = z := ⟨_, rfl⟩
    rw [hJ] at o
    obtain ⟨nJ, hnJ⟩ : ∃ z, J.length = z := ⟨_, rfl⟩
    have hml : mj.length ≤ 81 := by
     have h1 := (Pr.safe_run _ (safe_mprodP (p := ((n ^ j : Nat) : Int)) HBU.out.1 HMA.out.1 HMB.out.1 HMB.out.2.2 (by have := HBU.out; omega))).up.length_le
     rw [hqj, List.length_map] at h1
     unfold prodRanks at h1
     rw [List.length_map, len_pairs] at h1
     simp only at h1
     omega
    have HUJ := hid (show Good gj ∧ gj.length ≤ 300 ∧ Mat gj mj ∧ (∀ c ∈ mj, 0 ≤ c.1) ∧ mj.length ≤ 81 ∧ valL gj vs mj = J from ⟨o.1, by have h1 := o.2.1; have := HBU.out; omega, o.2.2.1, o.2.2.2.1, hml, o.2.2.2.2⟩)
    have HJL := hid (show J.length = nJ ∧ nJ ≤ 81 from ⟨hnJ, by rw [← hnJ, ← o.2.2.2.2]; exact Nat.le_trans vals_len hml⟩)
    have hrj := fun (U : World) (b d : Option Addr) (x y : Nat) (h1 : IntsW U b x P) (h2 : IntsW U d y Q) => product_calls n k j P Q b d x y U h1 h2 (by have := Hp.out.2.2.1; have := HPX.out; omega) (by have := Hq.out.2.2.1; have := HPX.out; omega) (by have := HNK.out; omega) (by omega) (fun x hx => by have := HPX.out.1 x hx; have := HPX.out; omega) (fun x hx => by have := HPX.out.2.1 x hx; have := HPX.out; omega)
    rw [Hp.out.2.2.1, Hq.out.2.2.1, hrr, hJ, hnJ] at hrj
    have HRJ := hid hrj
    have HCJ := hid hcj
    clear hrr har h81 hqj o hcj hJ hnJ hml hrj
    have qc := Hc.out.1
    have qa := Ha.out.1
    have ra := Ha.out.2.1
    have qb := Hb.out.1
    have rb := Hb.out.2.1
    have qp := Hp.out.1
    have rp := Hp.out.2.1
    have qq := Hq.out.1
    have rq := Hq.out.2.1
    go_wp2_with fail
    clear qc qa ra qb rb qp rp qq rq
    refine (HCJ.out).mono ?_
    rintro e V19 ⟨ad, cd, ae, ne, ce, rfl, hn, hr, hm, g1⟩
    replace Hc := hid (Hc.out.grown g1)
    replace Ha := hid (Ha.out.grown g1)
    replace Hb := hid (Hb.out.grown g1)
    replace Hp := hid (Hp.out.grown g1)
    replace Hq := hid (Hq.out.grown g1)
    replace HL := hid (HL.out.grown g1)
    replace HX := hid (HX.out.grown g1)
    replace HY := hid (HY.out.grown g1)
    replace HR := hid (HR.out.grown g1)
    replace HVV := hid (HVV.out.grown g1)
    replace HG := hid (gT HG.out g1)
    clear g1
    have qc := Hc.out.1
    have qa := Ha.out.1
    have ra := Ha.out.2.1
    have qb := Hb.out.1
    have rb := Hb.out.2.1
    have qp := Hp.out.1
    have rp := Hp.out.2.1
    have qq := Hq.out.1
    have rq := Hq.out.2.1
    go_upto_region 18 with fail
    clear qc qa ra qb rb qp rp qq rq
    have h1 := CB.new hr
    have gw := gAl V19 (.cells #[.slice ad gj.length cd] 27) none
    obtain ⟨V20, hU⟩ : ∃ z, World.alloc V19 (.cells #[.slice ad gj.length cd] 27) = z := ⟨_, rfl⟩
    have hsU : V20.heap.size = V19.heap.size + 1 := by rw [← hU]; simp
    rw [hU] at gw h1 ⊢
    clear hU
    obtain ⟨bd, hbb⟩ : ∃ b, V19.heap.size = b := ⟨_, rfl⟩
    rw [hbb] at h1 hsU ⊢
    clear hbb
    replace hm := hm.grown gw
    replace Hc := hid (Hc.out.grown gw)
    replace Ha := hid (Ha.out.grown gw)
    replace Hb := hid (Hb.out.grown gw)
    replace Hp := hid (Hp.out.grown gw)
    replace Hq := hid (Hq.out.grown gw)
    replace HL := hid (HL.out.grown gw)
    replace HX := hid (HX.out.grown gw)
    replace HY := hid (HY.out.grown gw)
    replace HR := hid (HR.out.grown gw)
    replace HVV := hid (HVV.out.grown gw)
    replace HG := hid (gT HG.out gw)
    clear gw
    have hb := XB.new (rr : Int) hm hn
    have gw := gAl V20 (.cells #[.int .i64 (rr : Int), .slice ae ne ce] 35) none
    obtain ⟨V21, hU⟩ : ∃ z, World.alloc V20 (.cells #[.int .i64 (rr : Int), .slice ae ne ce] 35) = z := ⟨_, rfl⟩
    rw [hU] at gw hb ⊢
    clear hU
    rw [hsU] at hb
    clear hsU
    obtain ⟨be, hbb⟩ : ∃ b, bd + 1 = b := ⟨_, rfl⟩
    rw [hbb] at hb ⊢
    clear hbb
    replace h1 := h1.grown gw
    replace Hc := hid (Hc.out.grown gw)
    replace Ha := hid (Ha.out.grown gw)
    replace Hb := hid (Hb.out.grown gw)
    replace Hp := hid (Hp.out.grown gw)
    replace Hq := hid (Hq.out.grown gw)
    replace HL := hid (HL.out.grown gw)
    replace HX := hid (HX.out.grown gw)
    replace HY := hid (HY.out.grown gw)
    replace HR := hid (HR.out.grown gw)
    replace HVV := hid (HVV.out.grown gw)
    replace HG := hid (gT HG.out gw)
    clear gw
    have Hd := hid h1
    clear h1
    have He := hid hb
    clear hb
    clear hr hm hn
    have qc := Hc.out.1
    have qa := Ha.out.1
    have ra := Ha.out.2.1
    have qb := Hb.out.1
    have rb := Hb.out.2.1
    have qp := Hp.out.1
    have rp := Hp.out.2.1
    have qq := Hq.out.1
    have rq := Hq.out.2.1
    have qd := Hd.out.1
    have qe := He.out.1
    have re := He.out.2.1
    go_wp2_with fail
    clear qc qa ra qb rb qp rp qq rq qd qe re
    refine (HRJ.out _ _ _ _ _ Hp.out.2.2.2 Hq.out.2.2.2).mono ?_
    rintro e V22 ⟨aJ, cJ, rfl, hsp, g1⟩
    have hr := hsp.here
    clear hsp
    replace Hc := hid (Hc.out.grown g1)
    replace Ha := hid (Ha.out.grown g1)
    replace Hb := hid (Hb.out.grown g1)
    replace Hp := hid (Hp.out.grown g1)
    replace Hq := hid (Hq.out.grown g1)
    replace Hd := hid (Hd.out.grown g1)
    replace He := hid (He.out.grown g1)
    replace HL := hid (HL.out.grown g1)
    replace HX := hid (HX.out.grown g1)
    replace HY := hid (HY.out.grown g1)
    replace HR := hid (HR.out.grown g1)
    replace HVV := hid (HVV.out.grown g1)
    replace HG := hid (gT HG.out g1)
    clear g1
    have qc := Hc.out.1
    have qa := Ha.out.1
    have ra := Ha.out.2.1
    have qb := Hb.out.1
    have rb := Hb.out.2.1
    have qp := Hp.out.1
    have rp := Hp.out.2.1
    have qq := Hq.out.1
    have rq := Hq.out.2.1
    have qd := Hd.out.1
    have qe := He.out.1
    have re := He.out.2.1
    go_upto_region 19 with fail
    clear qc qa ra qb rb qp rp qq rq qd qe re
    have hb := YB.new (rr : Int) hr HJL.out.1
    have gw := gAl V22 (.cells #[.int .i64 (rr : Int), .slice aJ nJ cJ] 40) none
    obtain ⟨V23, hV23⟩ : ∃ z, World.alloc V22 (.cells #[.int .i64 (rr : Int), .slice aJ nJ cJ] 40) = z := ⟨_, rfl⟩
    have hsV23 : V23.heap.size = V22.heap.size + 1 := by rw [← hV23]; simp
    rw [hV23] at gw hb ⊢
    clear hV23
    obtain ⟨bt, hbb⟩ : ∃ b, V22.heap.size = b := ⟨_, rfl⟩
    rw [hbb] at hb hsV23 ⊢
    clear hbb
    replace Hc := hid (Hc.out.grown gw)
    replace Ha := hid (Ha.out.grown gw)
    replace Hb := hid (Hb.out.grown gw)
    replace Hp := hid (Hp.out.grown gw)
    replace Hq := hid (Hq.out.grown gw)
    replace Hd := hid (Hd.out.grown gw)
    replace He := hid (He.out.grown gw)
    replace HL := hid (HL.out.grown gw)
    replace HX := hid (HX.out.grown gw)
    replace HY := hid (HY.out.grown gw)
    replace HR := hid (HR.out.grown gw)
    replace HVV := hid (HVV.out.grown gw)
    replace HG := hid (gT HG.out gw)
    clear gw
    have Ht := hid hb
    clear hb
    clear hr hsV23
    have HS := hid (fun (Wh : World) (hWh : V23.grownBy Wh none) => (⟨hWh, hWh.cell Hd.out.1 (by simp), hWh.cell He.out.1 (by simp), hWh.cell He.out.2.1 (by simp), hWh.cell Ht.out.1 (by simp), hWh.cell Ht.out.2.1 (by simp)⟩ : (fun Wh : World => V23.grownBy Wh none ∧ Wh.cell? ⟨bd, 0, none⟩ = some (.slice ad gj.length cd) ∧ Wh.cell? ⟨be, 0, none⟩ = some (.int .i64 (rr : Int)) ∧ Wh.cell? ⟨be, 1, none⟩ = some (.slice ae ne ce) ∧ Wh.cell? ⟨bt, 0, none⟩ = some (.int .i64 (rr : Int)) ∧ Wh.cell? ⟨bt, 1, none⟩ = some (.slice aJ nJ cJ)) Wh))
    have hdr : V23.grownBy V23.drew none := ⟨rfl, rfl, rfl, Nat.le_refl _, fun _ _ _ => rfl⟩
    refine wp_region_held_drew (S := (fun Wh : World => V23.grownBy Wh none ∧ Wh.cell? ⟨bd, 0, none⟩ = some (.slice ad gj.length cd) ∧ Wh.cell? ⟨be, 0, none⟩ = some (.int .i64 (rr : Int)) ∧ Wh.cell? ⟨be, 1, none⟩ = some (.slice ae ne ce) ∧ Wh.cell? ⟨bt, 0, none⟩ = some (.int .i64 (rr : Int)) ∧ Wh.cell? ⟨bt, 1, none⟩ = some (.slice aJ nJ cJ))) (by kernel_rfl) (HS.out _ hdr) (fun hH => ?_)
    refine tq 0 ({ dst := some 121, op := Op.move (Operand.tmp 29), type := 44, pos := "law.go:179", after := #[], guard := none }) ?_ ?_ hH ?_
    rotate_left 1
    · (intro W h; go_simp <;> with_reducible rfl)
    try simp only [Act.put, sA, sB, sC]
    refine tq 1 ({ dst := some 122, op := Op.binOp BinOp.neq 44 (Operand.tmp 121) (Operand.const (Value.int IntKind.i64 0)) 44, type := 4, pos := "law.go:179", after := #[{ on := 0, ground := Ground.data }], guard := none }) ?_ ?_ hH ?_
    rotate_left 1
    · (intro W h; go_simp <;> with_reducible rfl)
    try simp only [Act.put, sA, sB, sC]
    refine tq 2 ({ dst := some 123, op := Op.move (Operand.tmp 122), type := 4, pos := "law.go:179", after := #[{ on := 1, ground := Ground.data }], guard := none }) ?_ ?_ hH ?_
    rotate_left 1
    · (intro W h; go_simp <;> with_reducible rfl)
    try simp only [Act.put, sA, sB, sC]
    refine tq 3 ({ dst := some 124, op := Op.load 27 (Operand.tmp 26), type := 27, pos := "law.go:179", after := #[{ on := 2, ground := Ground.guard }], guard := some (2, false) }) ?_ ?_ hH ?_
    rotate_left 1
    · (intro W h; go_simp <;> with_reducible rfl)
    try simp only [Act.put, sA, sB, sC]
    refine tq 4 ({ dst := some 125, op := Op.load 35 (Operand.tmp 27), type := 35, pos := "law.go:179", after := #[{ on := 2, ground := Ground.guard }], guard := some (2, false) }) ?_ ?_ hH ?_
    rotate_left 1
    · (intro W h; go_simp <;> with_reducible rfl)
    try simp only [Act.put, sA, sB, sC]
    refine wpAnyH_ready (rs := [5]) (by kernel_rfl) (by simp) ?_
    refine (AllReadyH.cons (o := { dst := some 126, op := Op.call { callee := Callee.value (Operand.func 15), args := #[Operand.tmp 124, Operand.tmp 125], argTypes := #[27, 35] }, type := 4, pos := "law.go:179", after := #[{ on := 3, ground := Ground.data }, { on := 4, ground := Ground.data }, { on := 2, ground := Ground.chain }, { on := 2, ground := Ground.guard }], guard := some (2, false) }) rfl (fun K hK => ?_) AllReadyH.nil)
    rw [if_pos (by rfl)]
    go_simp
    go_at_call 15
    refine (valid14_at HUJ.out.2.2.1 HUJ.out.2.2.2.1 (by have := HAR.out; omega) (by have := HAR.out; omega) He.out.2.2.1 (by have := HUJ.out; omega) (by have := HUJ.out; have := He.out.2.2.1; omega) (He.out.grown hdr).2.2.2).mono ?_
    rintro e wc1_17 ⟨rfl, gc1_17⟩
    have hgr1_17 := gT hdr gc1_17
    go_wp2_with fail
    refine hK.out _ _ (HS.out _ hgr1_17) (fun hH => ?_)
    clear hK K
    try simp only [Act.put, sA, sB, sC]
    refine tq 6 ({ dst := some 127, op := Op.unOp UnOp.not 4 (Operand.tmp 126), type := 4, pos := "law.go:179", after := #[{ on := 5, ground := Ground.data }, { on := 2, ground := Ground.guard }], guard := some (2, false) }) ?_ ?_ hH ?_
    rotate_left 1
    · (intro W h; go_simp <;> with_reducible rfl)
    try simp only [Act.put, sA, sB, sC]
    refine tq 7 ({ dst := some 128, op := Op.pick (Operand.tmp 123) (Operand.const (Value.bool true)) (Operand.tmp 127), type := 4, pos := "law.go:179", after := #[{ on := 2, ground := Ground.data }, { on := 6, ground := Ground.data }], guard := none }) ?_ ?_ hH ?_
    rotate_left 1
    · (intro W h; go_simp <;> with_reducible rfl)
    try simp only [Act.put, sA, sB, sC]
    refine tq 8 ({ dst := some 129, op := Op.move (Operand.tmp 128), type := 4, pos := "law.go:179", after := #[{ on := 7, ground := Ground.data }, { on := 5, ground := Ground.chain }], guard := none }) ?_ ?_ hH ?_
    rotate_left 1
    · (intro W h; go_simp <;> with_reducible rfl)
    try simp only [Act.put, sA, sB, sC]
    refine tq 9 ({ dst := some 130, op := Op.load 27 (Operand.tmp 26), type := 27, pos := "law.go:179", after := #[{ on := 8, ground := Ground.guard }], guard := some (8, false) }) ?_ ?_ hH ?_
    rotate_left 1
    · (intro W h; go_simp <;> with_reducible rfl)
    try simp only [Act.put, sA, sB, sC]
    refine tq 10 ({ dst := some 131, op := Op.load 35 (Operand.tmp 27), type := 35, pos := "law.go:179", after := #[{ on := 8, ground := Ground.guard }], guard := some (8, false) }) ?_ ?_ hH ?_
    rotate_left 1
    · (intro W h; go_simp <;> with_reducible rfl)
    try simp only [Act.put, sA, sB, sC]
    refine tq 11 ({ dst := some 132, op := Op.move (Operand.tmp 19), type := 37, pos := "law.go:179", after := #[{ on := 8, ground := Ground.guard }], guard := some (8, false) }) ?_ ?_ hH ?_
    rotate_left 1
    · (intro W h; go_simp <;> with_reducible rfl)
    try simp only [Act.put, sA, sB, sC]
    refine tq 13 ({ dst := some 134, op := Op.load 40 (Operand.tmp 28), type := 40, pos := "law.go:179", after := #[{ on := 8, ground := Ground.guard }], guard := some (8, false) }) ?_ ?_ hH ?_
    rotate_left 1
    · (intro W h; go_simp <;> with_reducible rfl)
    try simp only [Act.put, sA, sB, sC]
    refine wpAnyH_ready (rs := [12]) (by kernel_rfl) (by simp) ?_
    refine (AllReadyH.cons (o := { dst := some 133, op := Op.call { callee := Callee.value (Operand.func 12), args := #[Operand.tmp 130, Operand.tmp 131, Operand.tmp 132], argTypes := #[27, 35, 37] }, type := 40, pos := "law.go:179", after := #[{ on := 9, ground := Ground.data }, { on := 10, ground := Ground.data }, { on := 11, ground := Ground.data }, { on := 8, ground := Ground.chain }, { on := 8, ground := Ground.guard }], guard := some (8, false) }) rfl (fun K hK => ?_) AllReadyH.nil)
    rw [if_pos (by rfl)]
    go_simp
    go_at_call 12
    refine (value14_at (rr : Int) HUJ.out.2.2.2.2.2 HJL.out.1 He.out.2.2.1 HVL.out HUJ.out.1 (by have := HUJ.out; omega) (fun c hc => (HUJ.out.2.2.1.2 c hc).1) (by have := HUJ.out; have := He.out.2.2.1; omega) (Hd.out.grown hgr1_17).2.2 (He.out.grown hgr1_17).2.2.2 (HVV.out.grown hgr1_17)).mono ?_
    rintro e wc2_17 ⟨bv0, dv0, rfl, hv0, gc2_17⟩
    have hgr2_17 := gT hgr1_17 gc2_17
    go_wp2_with fail
    refine hK.out _ _ (HS.out _ hgr2_17) (fun hH => ?_)
    clear hK K
    try simp only [Act.put, sA, sB, sC]
    refine wpAnyH_ready (rs := [14]) (by kernel_rfl) (by simp) ?_
    refine (AllReadyH.cons (o := { dst := some 135, op := Op.call { callee := Callee.value (Operand.func 16), args := #[Operand.tmp 133, Operand.tmp 134], argTypes := #[40, 40] }, type := 4, pos := "law.go:179", after := #[{ on := 12, ground := Ground.data }, { on := 13, ground := Ground.data }, { on := 12, ground := Ground.chain }, { on := 8, ground := Ground.guard }], guard := some (8, false) }) rfl (fun K hK => ?_) AllReadyH.nil)
    rw [if_pos (by rfl)]
    go_simp
    go_at_call 16
    refine (h_eq_at (rr : Int) HJL.out.1 hv0 (Ht.out.grown hgr2_17).2.2.2 (by have := HJL.out; omega)).mono ?_
    rintro e wc3_17 ⟨rfl, gc3_17⟩
    have hgr3_17 := gT hgr2_17 gc3_17
    go_wp2_with fail
    refine hK.out _ _ (HS.out _ hgr3_17) (fun hH => ?_)
    clear hK K
    try simp only [Act.put, sA, sB, sC]
    refine tq 15 ({ dst := some 136, op := Op.unOp UnOp.not 4 (Operand.tmp 135), type := 4, pos := "law.go:179", after := #[{ on := 14, ground := Ground.data }, { on := 8, ground := Ground.guard }], guard := some (8, false) }) ?_ ?_ hH ?_
    rotate_left 1
    · (intro W h; go_simp <;> with_reducible rfl)
    try simp only [Act.put, sA, sB, sC]
    refine tq 16 ({ dst := some 137, op := Op.pick (Operand.tmp 129) (Operand.const (Value.bool true)) (Operand.tmp 136), type := 4, pos := "law.go:179", after := #[{ on := 8, ground := Ground.data }, { on := 15, ground := Ground.data }], guard := none }) ?_ ?_ hH ?_
    rotate_left 1
    · (intro W h; go_simp <;> with_reducible rfl)
    try simp only [Act.put, sA, sB, sC]
    refine wpAnyH_done (by kernel_rfl) ?_ _
    have hEND := hgr3_17
    clear hH
    have g1 := hEND
    clear hv0 hdr HS
    replace Hc := hid (Hc.out.grown g1)
    replace Ha := hid (Ha.out.grown g1)
    replace Hb := hid (Hb.out.grown g1)
    replace Hp := hid (Hp.out.grown g1)
    replace Hq := hid (Hq.out.grown g1)
    replace Hd := hid (Hd.out.grown g1)
    replace He := hid (He.out.grown g1)
    replace Ht := hid (Ht.out.grown g1)
    replace HL := hid (HL.out.grown g1)
    replace HX := hid (HX.out.grown g1)
    replace HY := hid (HY.out.grown g1)
    replace HR := hid (HR.out.grown g1)
    replace HVV := hid (HVV.out.grown g1)
    replace HG := hid (gT HG.out g1)
    clear g1
    clear HCJ HRJ
    have qc := Hc.out.1
    have qa := Ha.out.1
    have ra := Ha.out.2.1
    have qb := Hb.out.1
    have rb := Hb.out.2.1
    have qp := Hp.out.1
    have rp := Hp.out.2.1
    have qq := Hq.out.1
    have rq := Hq.out.2.1
    have qd := Hd.out.1
    have qe := He.out.1
    have re := He.out.2.1
    have qt := Ht.out.1
    have rt := Ht.out.2.1
    go_wp2_with fail
    clear qc qa ra qb rb qp rp qq rq qd qe re qt rt
    go_meet
    exact HG.out
   ·
    have f1 : decide ((k : Int) + (j : Int) < 4) = false := decide_eq_false (by omega)
    have qc := Hc.out.1
    have qa := Ha.out.1
    have ra := Ha.out.2.1
    have qb := Hb.out.1
    have rb := Hb.out.2.1
    have qp := Hp.out.1
    have rp := Hp.out.2.1
    have qq := Hq.out.1
    have rq := Hq.out.2.1
    go_wp2_with fail
    clear qc qa ra qb rb qp rp qq rq
    go_meet
    exact grown_refl V18 none
  case rest =>
   replace HG := HG0
   clear HG0
   obtain ⟨V24, hv9⟩ : ∃ z, z = wc := ⟨_, rfl⟩
   rw [← hv9] at hcut ⊢
   clear hv9
   replace Hc := hid (Hc.out.grown hcut)
   replace Ha := hid (Ha.out.grown hcut)
   replace Hb := hid (Hb.out.grown hcut)
   replace Hp := hid (Hp.out.grown hcut)
   replace Hq := hid (Hq.out.grown hcut)
   replace HL := hid (HL.out.grown hcut)
   replace HX := hid (HX.out.grown hcut)
   replace HY := hid (HY.out.grown hcut)
   replace HR := hid (HR.out.grown hcut)
   replace HVV := hid (HVV.out.grown hcut)
   replace HG := hid (gT HG.out hcut)
   clear hcut
   have qc := Hc.out.1
   have qa := Ha.out.1
   have ra := Ha.out.2.1
   have qb := Hb.out.1
   have rb := Hb.out.2.1
   have qp := Hp.out.1
   have rp := Hp.out.2.1
   have qq := Hq.out.1
   have rq := Hq.out.2.1
   go_upto_region 21 with fail
   clear qc qa ra qb rb qp rp qq rq
   by_cases hk2 : k = 2
   ·
    have f3 : ((k : Int) == 2) = true := by rw [hk2]; rfl
    have f4 : ((k : Int) != 2) = false := by rw [bne, f3]; rfl
    have HK2 := hid hk2
    clear hk2
    have hsq : Sq n g A := ⟨HMA.out.1, fun c hc => by have h1 := HMA.out.2.2 c hc; rw [HK2.out, Nat.pow_two, Int.natCast_mul] at h1; exact h1⟩
    have hpq : ∀ z ∈ P, 0 ≤ z ∧ z ≤ 2000 := fun z hz => by have := HPX.out.1 z hz; have := HPX.out; omega
    have hct := fun (U : World) (hU : World.grownBy V24 U none) => mturn_calls U n (k : Int) A aA cA mA Ha.out.2.2.1 (Ha.out.2.2.2.grown hU) HNK.out.1 (by have := HNK.out; omega) (by have := HMA.out.2.1; have := Ha.out.2.2.1; omega) (fun c hc => by have h1 := HMA.out.2.2 c hc; have := HPX.out.2.2.2.2.1; omega)
    have hrt := fun (U : World) (b : Option Addr) (d : Nat) (h : IntsW U b d P) => relTurn_calls n (k : Int) P b d U h (by have := Hp.out.2.2.1; have := HPX.out; omega) HNK.out.1 (by have := HNK.out; omega) hpq
    obtain ⟨T, hT⟩ : ∃ z, uniq (turnL n P) = z := ⟨_, rfl⟩
    obtain ⟨nT, hnT⟩ : ∃ z, T.length = z := ⟨_, rfl⟩
    rw [hT, hnT, Hp.out.2.2.1] at hrt
    have hT9 : nT ≤ 9 := by have h1 : (uniq (turnL n P)).length ≤ (turnL n P).length := ofTo_len; rw [hT, hnT] at h1; unfold turnL at h1; rw [List.length_map] at h1; have := Hp.out.2.2.1; have := HPX.out; omega
    have hvt := fun (l : List Cl) (hp : l.Perm (turnM n A)) (hl : SortedCl l) => (show valL g vs l = T from by rw [val_turn HBU.out.1 hsq hp hl vs, HEP.out, hT])
    have HTL := hid (And.intro hnT hT9)
    have HCT := hid hct
    have HRT := hid hrt
    have HVT := hid hvt
    have HSQ := hid hsq
    clear hsq hpq hct hrt hT hnT hT9 hvt
    have HS := hid (fun (Wh : World) (hWh : V24.grownBy Wh none) => (⟨hWh, hWh.cell Hc.out.1 (by simp), hWh.cell Ha.out.1 (by simp), hWh.cell Ha.out.2.1 (by simp), hWh.cell Hp.out.1 (by simp), hWh.cell Hp.out.2.1 (by simp)⟩ : (fun Wh : World => V24.grownBy Wh none ∧ Wh.cell? ⟨bc, 0, none⟩ = some (.slice a0 g.length c0) ∧ Wh.cell? ⟨ba, 0, none⟩ = some (.int .i64 (k : Int)) ∧ Wh.cell? ⟨ba, 1, none⟩ = some (.slice aA mA cA) ∧ Wh.cell? ⟨bp, 0, none⟩ = some (.int .i64 (k : Int)) ∧ Wh.cell? ⟨bp, 1, none⟩ = some (.slice aP nP cP)) Wh))
    have hdr : V24.grownBy V24.drew none := ⟨rfl, rfl, rfl, Nat.le_refl _, fun _ _ _ => rfl⟩
    refine wp_region_held_drew (S := (fun Wh : World => V24.grownBy Wh none ∧ Wh.cell? ⟨bc, 0, none⟩ = some (.slice a0 g.length c0) ∧ Wh.cell? ⟨ba, 0, none⟩ = some (.int .i64 (k : Int)) ∧ Wh.cell? ⟨ba, 1, none⟩ = some (.slice aA mA cA) ∧ Wh.cell? ⟨bp, 0, none⟩ = some (.int .i64 (k : Int)) ∧ Wh.cell? ⟨bp, 1, none⟩ = some (.slice aP nP cP))) (by kernel_rfl) (HS.out _ hdr) (fun hH => ?_)
    refine tq 0 z3o0 ?_ ?_ hH ?_
    rotate_left 1
    · (intro W h; go_simp <;> with_reducible rfl)
    try simp only [Act.put, sA, sB, sC]
    refine tq 1 z3o1 ?_ ?_ hH ?_
    rotate_left 1
    · (intro W h; go_simp <;> with_reducible rfl)
    try simp only [Act.put, sA, sB, sC]
    refine tq 2 z3o2 ?_ ?_ hH ?_
    rotate_left 1
    · (intro W h; go_simp <;> with_reducible rfl)
    try simp only [Act.put, sA, sB, sC]
    refine tq 3 z3o3 ?_ ?_ hH ?_
    rotate_left 1
    · (intro W h; go_simp <;> with_reducible rfl)
    try simp only [Act.put, sA, sB, sC]
    refine tq 4 z3o4 ?_ ?_ hH ?_
    rotate_left 1
    · (intro W h; go_simp <;> with_reducible rfl)
    try simp only [Act.put, sA, sB, sC]
    refine tq 5 z3o5 ?_ ?_ hH ?_
    rotate_left 1
    · (intro W h; go_simp <;> with_reducible rfl)
    try simp only [Act.put, sA, sB, sC]
    refine tq 6 z3o6 ?_ ?_ hH ?_
    rotate_left 1
    · (intro W h; go_simp <;> with_reducible rfl)
    try simp only [Act.put, sA, sB, sC]
    refine tq 7 z3o7 ?_ ?_ hH ?_
    rotate_left 1
    · (intro W h; go_simp <;> with_reducible rfl)
    try simp only [Act.put, sA, sB, sC]
    refine tq 9 z3o8 ?_ ?_ hH ?_
    rotate_left 1
    · (intro W h; go_simp <;> with_reducible rfl)
    try simp only [Act.put, sA, sB, sC]
    refine tq 11 z3o9 ?_ ?_ hH ?_
    rotate_left 1
    · (intro W h; go_simp <;> with_reducible rfl)
    try simp only [Act.put, sA, sB, sC]
    refine tq 12 z3o10 ?_ ?_ hH ?_
    rotate_left 1
    · (intro W h; go_simp <;> with_reducible rfl)
    try simp only [Act.put, sA, sB, sC]
    refine wpAnyH_ready (rs := [8]) (by kernel_rfl) (by simp) ?_
    refine (AllReadyH.cons (o := z3o11) rfl (fun K hK => ?_) AllReadyH.nil)
    rw [if_pos (by rfl)]
    go_simp
    go_at_call 19
    refine (HCT.out _ hdr).mono ?_
    rintro e wc1 ⟨bt0, dt0, lt0, rfl, hpt0, hst0, hmt0, gc1⟩
    have hgr1 := gT hdr gc1
    have hlt0 : lt0.length = mA := by rw [hpt0.length_eq]; unfold turnM; rw [List.length_map]; exact Ha.out.2.2.1
    have hqt0 := turnM_sq HSQ.out hpt0 hst0
    go_wp2_with fail
    refine hK.out _ _ (HS.out _ hgr1) (fun hH => ?_)
    clear hK K
    try simp only [Act.put, sA, sB, sC]
    refine wpAnyH_ready (rs := [10]) (by kernel_rfl) (by simp) ?_
    refine (AllReadyH.cons (o := z3o12) rfl (fun K hK => ?_) AllReadyH.nil)
    rw [if_pos (by rfl)]
    go_simp
    go_at_call 12
    refine (value14_at (k : Int) (HVT.out lt0 hpt0 hst0) HTL.out.1 hlt0 HVL.out HBU.out.1 (by have := HBU.out; omega) (fun c hc => (hqt0.1.2 c hc).1) (by have := HMA.out.2.1; have := Ha.out.2.2.1; omega) (Hc.out.grown hgr1).2.2 hmt0 (HVV.out.grown hgr1)).mono ?_
    rintro e wc2 ⟨bv0, dv0, rfl, hv0, gc2⟩
    have hgr2 := gT hgr1 gc2
    go_wp2_with fail
    refine hK.out _ _ (HS.out _ hgr2) (fun hH => ?_)
    clear hK K
    try simp only [Act.put, sA, sB, sC]
    refine wpAnyH_ready (rs := [13]) (by kernel_rfl) (by simp) ?_
    refine (AllReadyH.cons (o := z3o13) rfl (fun K hK => ?_) AllReadyH.nil)
    rw [if_pos (by rfl)]
    go_simp
    go_at_call 20
    refine (HRT.out _ _ _ (Hp.out.grown hgr2).2.2.2).mono ?_
    rintro e wc3 ⟨br0, dr0, rfl, hs0, gc3⟩
    have hgr3 := gT hgr2 gc3
    have hr0 := hs0.here
    clear hs0
    have hv0b := hv0.grown gc3
    go_wp2_with fail
    refine hK.out _ _ (HS.out _ hgr3) (fun hH => ?_)
    clear hK K
    try simp only [Act.put, sA, sB, sC]
    refine wpAnyH_ready (rs := [14]) (by kernel_rfl) (by simp) ?_
    refine (AllReadyH.cons (o := z3o14) rfl (fun K hK => ?_) AllReadyH.nil)
    rw [if_pos (by rfl)]
    go_simp
    go_at_call 16
    refine (h_eq_at (k : Int) HTL.out.1 hv0b hr0 (by have := HTL.out; omega)).mono ?_
    rintro e wc4 ⟨rfl, gc4⟩
    have hgr4 := gT hgr3 gc4
    go_wp2_with fail
    refine hK.out _ _ (HS.out _ hgr4) (fun hH => ?_)
    clear hK K
    try simp only [Act.put, sA, sB, sC]
    refine tq 15 z3o15 ?_ ?_ hH ?_
    rotate_left 1
    · (intro W h; go_simp <;> with_reducible rfl)
    try simp only [Act.put, sA, sB, sC]
    refine tq 16 z3o16 ?_ ?_ hH ?_
    rotate_left 1
    · (intro W h; go_simp <;> with_reducible rfl)
    try simp only [Act.put, sA, sB, sC]
    refine tq 17 z3o17 ?_ ?_ hH ?_
    rotate_left 1
    · (intro W h; go_simp <;> with_reducible rfl)
    try simp only [Act.put, sA, sB, sC]
    refine wpAnyH_done (by kernel_rfl) ?_ _
    have hEND := hgr4
    clear hH
    go_wp2_with fail
    go_ret
    exact ⟨rfl, gT HG.out hEND⟩
   ·
    have f3 : ((k : Int) == 2) = false := by rw [beq_eq_false_iff_ne]; omega
    have f4 : ((k : Int) != 2) = true := by rw [bne, f3]; rfl
    have HK2 := hid hk2
    clear hk2
    have HS := hid (fun (Wh : World) (hWh : V24.grownBy Wh none) => (⟨hWh, hWh.cell Hc.out.1 (by simp), hWh.cell Ha.out.1 (by simp), hWh.cell Ha.out.2.1 (by simp), hWh.cell Hp.out.1 (by simp), hWh.cell Hp.out.2.1 (by simp)⟩ : (fun Wh : World => V24.grownBy Wh none ∧ Wh.cell? ⟨bc, 0, none⟩ = some (.slice a0 g.length c0) ∧ Wh.cell? ⟨ba, 0, none⟩ = some (.int .i64 (k : Int)) ∧ Wh.cell? ⟨ba, 1, none⟩ = some (.slice aA mA cA) ∧ Wh.cell? ⟨bp, 0, none⟩ = some (.int .i64 (k : Int)) ∧ Wh.cell? ⟨bp, 1, none⟩ = some (.slice aP nP cP)) Wh))
    have hdr : V24.grownBy V24.drew none := ⟨rfl, rfl, rfl, Nat.le_refl _, fun _ _ _ => rfl⟩
    refine wp_region_held_drew (S := (fun Wh : World => V24.grownBy Wh none ∧ Wh.cell? ⟨bc, 0, none⟩ = some (.slice a0 g.length c0) ∧ Wh.cell? ⟨ba, 0, none⟩ = some (.int .i64 (k : Int)) ∧ Wh.cell? ⟨ba, 1, none⟩ = some (.slice aA mA cA) ∧ Wh.cell? ⟨bp, 0, none⟩ = some (.int .i64 (k : Int)) ∧ Wh.cell? ⟨bp, 1, none⟩ = some (.slice aP nP cP))) (by kernel_rfl) (HS.out _ hdr) (fun hH => ?_)
    refine tq 0 z3o0 ?_ ?_ hH ?_
    rotate_left 1
    · (intro W h; go_simp <;> with_reducible rfl)
    try simp only [Act.put, sA, sB, sC]
    refine tq 1 z3o1 ?_ ?_ hH ?_
    rotate_left 1
    · (intro W h; go_simp <;> with_reducible rfl)
    try simp only [Act.put, sA, sB, sC]
    refine tq 2 z3o2 ?_ ?_ hH ?_
    rotate_left 1
    · (intro W h; go_simp <;> with_reducible rfl)
    try simp only [Act.put, sA, sB, sC]
    refine tq 3 z3o3 ?_ ?_ hH ?_
    rotate_left 1
    · (intro W h; go_simp <;> with_reducible rfl)
    try simp only [Act.put, sA, sB, sC]
    refine tq 4 z3o4 ?_ ?_ hH ?_
    rotate_left 1
    · (intro W h; go_simp <;> with_reducible rfl)
    try simp only [Act.put, sA, sB, sC]
    refine tku 5 z3o5 rfl (by kernel_rfl) (fun _ _ _ h => h) (by rfl) hH ?_
    try simp only [Act.put, sA, sB, sC]
    refine tku 6 z3o6 rfl (by kernel_rfl) (fun _ _ _ h => h) (by rfl) hH ?_
    try simp only [Act.put, sA, sB, sC]
    refine tku 7 z3o7 rfl (by kernel_rfl) (fun _ _ _ h => h) (by rfl) hH ?_
    try simp only [Act.put, sA, sB, sC]
    refine tku 8 z3o11 rfl (by kernel_rfl) (fun _ _ _ h => h) (by rfl) hH ?_
    try simp only [Act.put, sA, sB, sC]
    refine tku 9 z3o8 rfl (by kernel_rfl) (fun _ _ _ h => h) (by rfl) hH ?_
    try simp only [Act.put, sA, sB, sC]
    refine tku 10 z3o12 rfl (by kernel_rfl) (fun _ _ _ h => h) (by rfl) hH ?_
    try simp only [Act.put, sA, sB, sC]
    refine tku 11 z3o9 rfl (by kernel_rfl) (fun _ _ _ h => h) (by rfl) hH ?_
    try simp only [Act.put, sA, sB, sC]
    refine tku 12 z3o10 rfl (by kernel_rfl) (fun _ _ _ h => h) (by rfl) hH ?_
    try simp only [Act.put, sA, sB, sC]
    refine tku 13 z3o13 rfl (by kernel_rfl) (fun _ _ _ h => h) (by rfl) hH ?_
    try simp only [Act.put, sA, sB, sC]
    refine tku 14 z3o14 rfl (by kernel_rfl) (fun _ _ _ h => h) (by rfl) hH ?_
    try simp only [Act.put, sA, sB, sC]
    refine tq 15 z3o15 ?_ ?_ hH ?_
    rotate_left 1
    · (intro W h; go_simp <;> with_reducible rfl)
    try simp only [Act.put, sA, sB, sC]
    refine tq 16 z3o16 ?_ ?_ hH ?_
    rotate_left 1
    · (intro W h; go_simp <;> with_reducible rfl)
    try simp only [Act.put, sA, sB, sC]
    refine tq 17 z3o17 ?_ ?_ hH ?_
    rotate_left 1
    · (intro W h; go_simp <;> with_reducible rfl)
    try simp only [Act.put, sA, sB, sC]
    refine wpAnyH_done (by kernel_rfl) ?_ _
    have hEND := hdr
    clear hH
    go_wp2_with fail
    go_ret
    exact ⟨rfl, gT HG.out hEND⟩
end Go.Proofs.YthdhmflodiincaaGreat
