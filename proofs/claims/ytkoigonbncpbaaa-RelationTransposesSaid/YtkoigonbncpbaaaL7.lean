/- RelationTransposes: the law walked. -/
import Derived.Test.YtkoigonbncpbaaaM7
import Derived.Test.YtkoigonbncpbaaaC1
namespace Go.Proofs.Ytkoigonbncpbaaa
open Go.RowKit Go.Shelf

set_option maxRecDepth 100000 in
set_option maxHeartbeats 20000000 in
theorem transposes_calls (N Ar : Nat) (A0 B0 C0 : List Nat) (aa ab ac : Option Addr) (ca cb cc : Nat) (W0 : World) (h : RawAt W0 N Ar A0 B0 C0 aa ab ac ca cb cc) :
    Calls Try.prog 7 #[.agg #[.int .u8 (N : Int), .int .u8 (Ar : Int), .slice aa A0.length ca, .slice ab B0.length cb, .slice ac C0.length cc]] W0 fun e w' => e = .returned (.bool true) ∧ W0.grownBy w' none := by
  have HAT := Lib.hid (fun U => atoms_calls N h.hN U)
  obtain ⟨n, hn⟩ : ∃ n, 1 + N % 5 = n := ⟨_, rfl⟩
  rw [hn] at HAT
  have hn1 : 1 ≤ n := by omega
  have hn5 : n ≤ 5 := by omega
  clear hn
  obtain ⟨L1, hL1⟩ : ∃ l : List Int, fromL n 2 A0 = l := ⟨_, rfl⟩
  have vL1 := Lib.hid (by rw [← hL1]; exact VR.from n 2 A0 hn1 : VR n (2) L1)
  obtain ⟨lL1, hlL1⟩ : ∃ l, L1.length = l := ⟨_, rfl⟩
  have EL1 := Lib.hid hL1
  have ZL1 := Lib.hid hlL1
  clear hL1 hlL1
  obtain ⟨L2, hL2⟩ : ∃ l : List Int, fromL n 2 B0 = l := ⟨_, rfl⟩
  have vL2 := Lib.hid (by rw [← hL2]; exact VR.from n 2 B0 hn1 : VR n (2) L2)
  obtain ⟨lL2, hlL2⟩ : ∃ l, L2.length = l := ⟨_, rfl⟩
  have EL2 := Lib.hid hL2
  have ZL2 := Lib.hid hlL2
  clear hL2 hlL2
  obtain ⟨L3, hL3⟩ : ∃ l : List Int, fullL n 1 = l := ⟨_, rfl⟩
  have vL3 := Lib.hid (by rw [← hL3]; exact VR.full n 1 : VR n (1) L3)
  obtain ⟨lL3, hlL3⟩ : ∃ l, L3.length = l := ⟨_, rfl⟩
  have EL3 := Lib.hid hL3
  have ZL3 := Lib.hid hlL3
  clear hL3 hlL3
  obtain ⟨L4, hL4⟩ : ∃ l : List Int, uniq (joinP n (n ^ (2 - 1)) (fromL n 2 A0) (fromL n 2 B0)) = l := ⟨_, rfl⟩
  have vL4 := Lib.hid (by rw [← hL4]; exact (by have h := VR.join (n := n) (k := 2) (j := 2) (A := fromL n 2 A0) (B := fromL n 2 B0) (by rw [EL1.out]; exact vL1.out) (by rw [EL2.out]; exact vL2.out) hn1 (by omega) (by omega); rw [show 2 + 2 - 2 = 2 by omega] at h; exact h) : VR n (2) L4)
  obtain ⟨lL4, hlL4⟩ : ∃ l, L4.length = l := ⟨_, rfl⟩
  have EL4 := Lib.hid hL4
  have ZL4 := Lib.hid hlL4
  clear hL4 hlL4
  obtain ⟨L5, hL5⟩ : ∃ l : List Int, uniq (turnL n (fromL n 2 B0)) = l := ⟨_, rfl⟩
  have vL5 := Lib.hid (by rw [← hL5]; exact VR.turn (by rw [EL2.out]; exact vL2.out) hn1 : VR n (2) L5)
  obtain ⟨lL5, hlL5⟩ : ∃ l, L5.length = l := ⟨_, rfl⟩
  have EL5 := Lib.hid hL5
  have ZL5 := Lib.hid hlL5
  clear hL5 hlL5
  obtain ⟨L6, hL6⟩ : ∃ l : List Int, uniq (turnL n (fromL n 2 A0)) = l := ⟨_, rfl⟩
  have vL6 := Lib.hid (by rw [← hL6]; exact VR.turn (by rw [EL1.out]; exact vL1.out) hn1 : VR n (2) L6)
  obtain ⟨lL6, hlL6⟩ : ∃ l, L6.length = l := ⟨_, rfl⟩
  have EL6 := Lib.hid hL6
  have ZL6 := Lib.hid hlL6
  clear hL6 hlL6
  obtain ⟨L7, hL7⟩ : ∃ l : List Int, uniq (joinP n (n ^ (2 - 1)) (uniq (turnL n (fromL n 2 B0))) (uniq (turnL n (fromL n 2 A0)))) = l := ⟨_, rfl⟩
  have vL7 := Lib.hid (by rw [← hL7]; exact (by have h := VR.join (n := n) (k := 2) (j := 2) (A := uniq (turnL n (fromL n 2 B0))) (B := uniq (turnL n (fromL n 2 A0))) (by rw [EL5.out]; exact vL5.out) (by rw [EL6.out]; exact vL6.out) hn1 (by omega) (by omega); rw [show 2 + 2 - 2 = 2 by omega] at h; exact h) : VR n (2) L7)
  obtain ⟨lL7, hlL7⟩ : ∃ l, L7.length = l := ⟨_, rfl⟩
  have EL7 := Lib.hid hL7
  have ZL7 := Lib.hid hlL7
  clear hL7 hlL7
  obtain ⟨L8, hL8⟩ : ∃ l : List Int, uniq (joinP n (n ^ (1 - 1)) (fromL n 2 A0) (fullL n 1)) = l := ⟨_, rfl⟩
  have vL8 := Lib.hid (by rw [← hL8]; exact (by have h := VR.join (n := n) (k := 2) (j := 1) (A := fromL n 2 A0) (B := fullL n 1) (by rw [EL1.out]; exact vL1.out) (by rw [EL3.out]; exact vL3.out) hn1 (by omega) (by omega); rw [show 2 + 1 - 2 = 1 by omega] at h; exact h) : VR n (1) L8)
  obtain ⟨lL8, hlL8⟩ : ∃ l, L8.length = l := ⟨_, rfl⟩
  have EL8 := Lib.hid hL8
  have ZL8 := Lib.hid hlL8
  clear hL8 hlL8
  obtain ⟨L9, hL9⟩ : ∃ l : List Int, uniq (joinP n (n ^ (2 - 1)) (fullL n 1) (uniq (turnL n (fromL n 2 A0)))) = l := ⟨_, rfl⟩
  have vL9 := Lib.hid (by rw [← hL9]; exact (by have h := VR.join (n := n) (k := 1) (j := 2) (A := fullL n 1) (B := uniq (turnL n (fromL n 2 A0))) (by rw [EL3.out]; exact vL3.out) (by rw [EL6.out]; exact vL6.out) hn1 (by omega) (by omega); rw [show 1 + 2 - 2 = 1 by omega] at h; exact h) : VR n (1) L9)
  obtain ⟨lL9, hlL9⟩ : ∃ l, L9.length = l := ⟨_, rfl⟩
  have EL9 := Lib.hid hL9
  have ZL9 := Lib.hid hlL9
  clear hL9 hlL9
  obtain ⟨Q, hQ⟩ : ∃ Q, decide (∀ z ∈ L1, z ∈ L2) = Q := ⟨_, rfl⟩
  obtain ⟨L10, hL10⟩ : ∃ l : List Int, uniq (turnL n (uniq (turnL n (fromL n 2 A0)))) = l := ⟨_, rfl⟩
  have vL10 := Lib.hid (by rw [← hL10]; exact VR.turn (by rw [EL6.out]; exact vL6.out) hn1 : VR n (2) L10)
  obtain ⟨lL10, hlL10⟩ : ∃ l, L10.length = l := ⟨_, rfl⟩
  have EL10 := Lib.hid hL10
  have ZL10 := Lib.hid hlL10
  clear hL10 hlL10
  have Q11 := Lib.hid (show L10 = L1 from by rw [← EL10.out, ← EL1.out]; exact trn_twice (VR.from n 2 A0 hn1) hn1)
  obtain ⟨L11, hL11⟩ : ∃ l : List Int, uniq (turnL n (uniq (joinP n (n ^ (2 - 1)) (fromL n 2 A0) (fromL n 2 B0)))) = l := ⟨_, rfl⟩
  have vL11 := Lib.hid (by rw [← hL11]; exact VR.turn (by rw [EL4.out]; exact vL4.out) hn1 : VR n (2) L11)
  obtain ⟨lL11, hlL11⟩ : ∃ l, L11.length = l := ⟨_, rfl⟩
  have EL11 := Lib.hid hL11
  have ZL11 := Lib.hid hlL11
  clear hL11 hlL11
  have Q13 := Lib.hid (show L11 = L7 from by rw [← EL11.out, ← EL7.out]; exact trn_join (VR.from n 2 A0 hn1) (VR.from n 2 B0 hn1) hn1)
  obtain ⟨L12, hL12⟩ : ∃ l : List Int, unionL (fromL n 2 A0) (fromL n 2 B0) = l := ⟨_, rfl⟩
  have vL12 := Lib.hid (by rw [← hL12]; exact VR.union (by rw [EL1.out]; exact vL1.out) (by rw [EL2.out]; exact vL2.out) : VR n (2) L12)
  obtain ⟨lL12, hlL12⟩ : ∃ l, L12.length = l := ⟨_, rfl⟩
  have EL12 := Lib.hid hL12
  have ZL12 := Lib.hid hlL12
  clear hL12 hlL12
  obtain ⟨L13, hL13⟩ : ∃ l : List Int, uniq (turnL n (unionL (fromL n 2 A0) (fromL n 2 B0))) = l := ⟨_, rfl⟩
  have vL13 := Lib.hid (by rw [← hL13]; exact VR.turn (by rw [EL12.out]; exact vL12.out) hn1 : VR n (2) L13)
  obtain ⟨lL13, hlL13⟩ : ∃ l, L13.length = l := ⟨_, rfl⟩
  have EL13 := Lib.hid hL13
  have ZL13 := Lib.hid hlL13
  clear hL13 hlL13
  obtain ⟨L14, hL14⟩ : ∃ l : List Int, unionL (uniq (turnL n (fromL n 2 A0))) (uniq (turnL n (fromL n 2 B0))) = l := ⟨_, rfl⟩
  have vL14 := Lib.hid (by rw [← hL14]; exact VR.union (by rw [EL6.out]; exact vL6.out) (by rw [EL5.out]; exact vL5.out) : VR n (2) L14)
  obtain ⟨lL14, hlL14⟩ : ∃ l, L14.length = l := ⟨_, rfl⟩
  have EL14 := Lib.hid hL14
  have ZL14 := Lib.hid hlL14
  clear hL14 hlL14
  have Q19 := Lib.hid (show L13 = L14 from by rw [← EL13.out, ← EL14.out]; exact trn_union (VR.from n 2 A0 hn1) (VR.from n 2 B0 hn1) hn1)
  have Q20 := Lib.hid (show decide (∀ z ∈ L1, z ∈ L2) = Q from by exact hQ)
  have Q23 := Lib.hid (show decide (∀ z ∈ L6, z ∈ L5) = Q from by rw [← hQ]; exact decide_eq_decide.2 (by rw [← EL6.out, ← EL5.out, ← EL1.out, ← EL2.out]; exact trn_sub (VR.from n 2 A0 hn1) (VR.from n 2 B0 hn1) hn1))
  have Q24 := Lib.hid (show L8 = L9 from by rw [← EL8.out, ← EL9.out]; exact trn_full (VR.from n 2 A0 hn1) hn1)
  obtain ⟨L15, hL15⟩ : ∃ l : List Int, idenL n = l := ⟨_, rfl⟩
  have vL15 := Lib.hid (by rw [← hL15]; exact VR.iden n : VR n (2) L15)
  obtain ⟨lL15, hlL15⟩ : ∃ l, L15.length = l := ⟨_, rfl⟩
  have EL15 := Lib.hid hL15
  have ZL15 := Lib.hid hlL15
  clear hL15 hlL15
  obtain ⟨L16, hL16⟩ : ∃ l : List Int, uniq (turnL n (idenL n)) = l := ⟨_, rfl⟩
  have vL16 := Lib.hid (by rw [← hL16]; exact VR.turn (by rw [EL15.out]; exact vL15.out) hn1 : VR n (2) L16)
  obtain ⟨lL16, hlL16⟩ : ∃ l, L16.length = l := ⟨_, rfl⟩
  have EL16 := Lib.hid hL16
  have ZL16 := Lib.hid hlL16
  clear hL16 hlL16
  have Q28 := Lib.hid (show L16 = L15 from by rw [← EL16.out, ← EL15.out]; exact trn_iden hn1)
  obtain ⟨lA0, hlA0⟩ : ∃ l, A0.length = l := ⟨_, rfl⟩
  obtain ⟨lB0, hlB0⟩ : ∃ l, B0.length = l := ⟨_, rfl⟩
  obtain ⟨lC0, hlC0⟩ : ∃ l, C0.length = l := ⟨_, rfl⟩
  have ZA0 := Lib.hid hlA0; have ZB0 := Lib.hid hlB0; have ZC0 := Lib.hid hlC0
  rw [hlA0, hlB0, hlC0]
  clear hlA0 hlB0 hlC0
  have hg := World.grownBy_alloc W0 (.cells #[.int .u8 (N : Int), .int .u8 (Ar : Int), .slice aa lA0 ca, .slice ab lB0 cb, .slice ac lC0 cc] 24) none
  have hb0 : (W0.alloc (.cells #[.int .u8 (N : Int), .int .u8 (Ar : Int), .slice aa lA0 ca, .slice ab lB0 cb, .slice ac lC0 cc] 24)).cell? ⟨W0.heap.size, 0, none⟩ = some (.int .u8 (N : Int)) := by go_simp
  have hb1 : (W0.alloc (.cells #[.int .u8 (N : Int), .int .u8 (Ar : Int), .slice aa lA0 ca, .slice ab lB0 cb, .slice ac lC0 cc] 24)).cell? ⟨W0.heap.size, 1, none⟩ = some (.int .u8 (Ar : Int)) := by go_simp
  have hb2 : (W0.alloc (.cells #[.int .u8 (N : Int), .int .u8 (Ar : Int), .slice aa lA0 ca, .slice ab lB0 cb, .slice ac lC0 cc] 24)).cell? ⟨W0.heap.size, 2, none⟩ = some (.slice aa lA0 ca) := by go_simp
  have hb3 : (W0.alloc (.cells #[.int .u8 (N : Int), .int .u8 (Ar : Int), .slice aa lA0 ca, .slice ab lB0 cb, .slice ac lC0 cc] 24)).cell? ⟨W0.heap.size, 3, none⟩ = some (.slice ab lB0 cb) := by go_simp
  have hb4 : (W0.alloc (.cells #[.int .u8 (N : Int), .int .u8 (Ar : Int), .slice aa lA0 ca, .slice ab lB0 cb, .slice ac lC0 cc] 24)).cell? ⟨W0.heap.size, 4, none⟩ = some (.slice ac lC0 cc) := by go_simp
  obtain ⟨V0, hV0⟩ : ∃ V, W0.alloc (.cells #[.int .u8 (N : Int), .int .u8 (Ar : Int), .slice aa lA0 ca, .slice ab lB0 cb, .slice ac lC0 cc] 24) = V := ⟨_, rfl⟩
  rw [hV0] at hg hb0 hb1 hb2 hb3 hb4
  have HG := Lib.hid hg
  have HRB := Lib.hid (And.intro hb0 (And.intro hb1 (And.intro hb2 (And.intro hb3 hb4))))
  have HR := Lib.hid (h.grown hg)
  clear hg hb0 hb1 hb2 hb3 hb4 h
  go_enter Try.func7, Try.ntmps7
  have qr0 := HRB.out.1
  have qr1 := HRB.out.2.1
  have qr2 := HRB.out.2.2.1
  have qr3 := HRB.out.2.2.2.1
  have qr4 := HRB.out.2.2.2.2
  go_upto_region 1 with fail
  clear qr0 qr1 qr2 qr3 qr4
  clear hV0
  have qr0 := HRB.out.1
  have qr1 := HRB.out.2.1
  have qr2 := HRB.out.2.2.1
  have qr3 := HRB.out.2.2.2.1
  have qr4 := HRB.out.2.2.2.2
  go_wp2_with fail
  clear qr0 qr1 qr2 qr3 qr4
  refine (head_calls _).mono ?_
  rintro e V1 ⟨rfl, g⟩
  replace HRB := Lib.hid (And.intro (World.grownBy.cell g HRB.out.1 (by simp)) (And.intro (World.grownBy.cell g HRB.out.2.1 (by simp)) (And.intro (World.grownBy.cell g HRB.out.2.2.1 (by simp)) (And.intro (World.grownBy.cell g HRB.out.2.2.2.1 (by simp)) (World.grownBy.cell g HRB.out.2.2.2.2 (by simp))))))
  replace HR := Lib.hid (HR.out.grown g)
  replace HG := Lib.hid (World.grownBy.trans HG.out g)
  clear g
  have qr0 := HRB.out.1
  have qr1 := HRB.out.2.1
  have qr2 := HRB.out.2.2.1
  have qr3 := HRB.out.2.2.2.1
  have qr4 := HRB.out.2.2.2.2
  go_upto_region 2 with fail
  clear qr0 qr1 qr2 qr3 qr4
  have qr0 := HRB.out.1
  have qr1 := HRB.out.2.1
  have qr2 := HRB.out.2.2.1
  have qr3 := HRB.out.2.2.2.1
  have qr4 := HRB.out.2.2.2.2
  go_wp2_with fail
  clear qr0 qr1 qr2 qr3 qr4
  refine (HAT.out _).mono ?_
  rintro e w2 ⟨rfl, hw2⟩
  rw [hw2]
  clear hw2 w2
  have qr0 := HRB.out.1
  have qr1 := HRB.out.2.1
  have qr2 := HRB.out.2.2.1
  have qr3 := HRB.out.2.2.2.1
  have qr4 := HRB.out.2.2.2.2
  go_upto_region 3 with fail
  clear qr0 qr1 qr2 qr3 qr4
  have qr0 := HRB.out.1
  have qr1 := HRB.out.2.1
  have qr2 := HRB.out.2.2.1
  have qr3 := HRB.out.2.2.2.1
  have qr4 := HRB.out.2.2.2.2
  go_wp2_with fail
  clear qr0 qr1 qr2 qr3 qr4
  refine (fromV (n := n) (k := 2) hn1 hn5 (by omega) HR.out.lA EL1.out ZA0.out ZL1.out _ _ _ HR.out.hA).mono ?_
  rintro e V2 ⟨xa, ya, rfl, hr, g⟩
  replace HRB := Lib.hid (And.intro (World.grownBy.cell g HRB.out.1 (by simp)) (And.intro (World.grownBy.cell g HRB.out.2.1 (by simp)) (And.intro (World.grownBy.cell g HRB.out.2.2.1 (by simp)) (And.intro (World.grownBy.cell g HRB.out.2.2.2.1 (by simp)) (World.grownBy.cell g HRB.out.2.2.2.2 (by simp))))))
  replace HR := Lib.hid (HR.out.grown g)
  replace HG := Lib.hid (World.grownBy.trans HG.out g)
  clear g
  have Ha := Lib.hid hr
  clear hr
  have qr0 := HRB.out.1
  have qr1 := HRB.out.2.1
  have qr2 := HRB.out.2.2.1
  have qr3 := HRB.out.2.2.2.1
  have qr4 := HRB.out.2.2.2.2
  go_upto_region 4 with fail
  clear qr0 qr1 qr2 qr3 qr4
  have hbx := one_cells V2 (.int .i64 2) (.slice xa lL1 ya) 27
  have g := World.grownBy_alloc V2 (.cells #[.int .i64 2, .slice xa lL1 ya] 27) none
  obtain ⟨V3, hV3⟩ : ∃ z, World.alloc V2 (.cells #[.int .i64 2, .slice xa lL1 ya] 27) = z := ⟨_, rfl⟩
  rw [hV3] at g hbx ⊢
  clear hV3
  obtain ⟨bB5, hb⟩ : ∃ b, V2.heap.size = b := ⟨_, rfl⟩
  rw [hb] at hbx ⊢
  clear hb
  replace Ha := Lib.hid (Ha.out.grown g)
  replace HRB := Lib.hid (And.intro (World.grownBy.cell g HRB.out.1 (by simp)) (And.intro (World.grownBy.cell g HRB.out.2.1 (by simp)) (And.intro (World.grownBy.cell g HRB.out.2.2.1 (by simp)) (And.intro (World.grownBy.cell g HRB.out.2.2.2.1 (by simp)) (World.grownBy.cell g HRB.out.2.2.2.2 (by simp))))))
  replace HR := Lib.hid (HR.out.grown g)
  replace HG := Lib.hid (World.grownBy.trans HG.out g)
  clear g
  have HB5 := Lib.hid (And.intro hbx.2.1 hbx.2.2.1)
  clear hbx
  have qB50 := HB5.out.1
  have qB51 := HB5.out.2
  have qr0 := HRB.out.1
  have qr1 := HRB.out.2.1
  have qr2 := HRB.out.2.2.1
  have qr3 := HRB.out.2.2.2.1
  have qr4 := HRB.out.2.2.2.2
  go_wp2_with fail
  clear qB50 qB51 qr0 qr1 qr2 qr3 qr4
  refine (fromV (n := n) (k := 2) hn1 hn5 (by omega) HR.out.lB EL2.out ZB0.out ZL2.out _ _ _ HR.out.hB).mono ?_
  rintro e V4 ⟨xb, yb, rfl, hr, g⟩
  replace Ha := Lib.hid (Ha.out.grown g)
  replace HB5 := Lib.hid (And.intro (World.grownBy.cell g HB5.out.1 (by simp)) (World.grownBy.cell g HB5.out.2 (by simp)))
  replace HRB := Lib.hid (And.intro (World.grownBy.cell g HRB.out.1 (by simp)) (And.intro (World.grownBy.cell g HRB.out.2.1 (by simp)) (And.intro (World.grownBy.cell g HRB.out.2.2.1 (by simp)) (And.intro (World.grownBy.cell g HRB.out.2.2.2.1 (by simp)) (World.grownBy.cell g HRB.out.2.2.2.2 (by simp))))))
  replace HR := Lib.hid (HR.out.grown g)
  replace HG := Lib.hid (World.grownBy.trans HG.out g)
  clear g
  have Hb := Lib.hid hr
  clear hr
  have qB50 := HB5.out.1
  have qB51 := HB5.out.2
  have qr0 := HRB.out.1
  have qr1 := HRB.out.2.1
  have qr2 := HRB.out.2.2.1
  have qr3 := HRB.out.2.2.2.1
  have qr4 := HRB.out.2.2.2.2
  go_upto_region 5 with fail
  clear qB50 qB51 qr0 qr1 qr2 qr3 qr4
  have hbx := one_cells V4 (.int .i64 2) (.slice xb lL2 yb) 27
  have g := World.grownBy_alloc V4 (.cells #[.int .i64 2, .slice xb lL2 yb] 27) none
  obtain ⟨V5, hV5⟩ : ∃ z, World.alloc V4 (.cells #[.int .i64 2, .slice xb lL2 yb] 27) = z := ⟨_, rfl⟩
  rw [hV5] at g hbx ⊢
  clear hV5
  obtain ⟨bB6, hb⟩ : ∃ b, V4.heap.size = b := ⟨_, rfl⟩
  rw [hb] at hbx ⊢
  clear hb
  replace Ha := Lib.hid (Ha.out.grown g)
  replace Hb := Lib.hid (Hb.out.grown g)
  replace HB5 := Lib.hid (And.intro (World.grownBy.cell g HB5.out.1 (by simp)) (World.grownBy.cell g HB5.out.2 (by simp)))
  replace HRB := Lib.hid (And.intro (World.grownBy.cell g HRB.out.1 (by simp)) (And.intro (World.grownBy.cell g HRB.out.2.1 (by simp)) (And.intro (World.grownBy.cell g HRB.out.2.2.1 (by simp)) (And.intro (World.grownBy.cell g HRB.out.2.2.2.1 (by simp)) (World.grownBy.cell g HRB.out.2.2.2.2 (by simp))))))
  replace HR := Lib.hid (HR.out.grown g)
  replace HG := Lib.hid (World.grownBy.trans HG.out g)
  clear g
  have HB6 := Lib.hid (And.intro hbx.2.1 hbx.2.2.1)
  clear hbx
  clear HRB HR
  have qB50 := HB5.out.1
  have qB51 := HB5.out.2
  have qB60 := HB6.out.1
  have qB61 := HB6.out.2
  go_wp2_with fail
  clear qB50 qB51 qB60 qB61
  refine (fullV (k := 1) hn5 (by omega) EL3.out ZL3.out _).mono ?_
  rintro e V6 ⟨xr1, yr1, rfl, hr, g⟩
  replace Ha := Lib.hid (Ha.out.grown g)
  replace Hb := Lib.hid (Hb.out.grown g)
  replace HB5 := Lib.hid (And.intro (World.grownBy.cell g HB5.out.1 (by simp)) (World.grownBy.cell g HB5.out.2 (by simp)))
  replace HB6 := Lib.hid (And.intro (World.grownBy.cell g HB6.out.1 (by simp)) (World.grownBy.cell g HB6.out.2 (by simp)))
  replace HG := Lib.hid (World.grownBy.trans HG.out g)
  clear g
  have Hr1 := Lib.hid hr
  clear hr
  have qB50 := HB5.out.1
  have qB51 := HB5.out.2
  have qB60 := HB6.out.1
  have qB61 := HB6.out.2
  go_upto_region 6 with fail
  clear qB50 qB51 qB60 qB61
  have hbx := one_cells V6 (.int .i64 1) (.slice xr1 lL3 yr1) 27
  have g := World.grownBy_alloc V6 (.cells #[.int .i64 1, .slice xr1 lL3 yr1] 27) none
  obtain ⟨V7, hV7⟩ : ∃ z, World.alloc V6 (.cells #[.int .i64 1, .slice xr1 lL3 yr1] 27) = z := ⟨_, rfl⟩
  rw [hV7] at g hbx ⊢
  clear hV7
  obtain ⟨bB7, hb⟩ : ∃ b, V6.heap.size = b := ⟨_, rfl⟩
  rw [hb] at hbx ⊢
  clear hb
  replace Ha := Lib.hid (Ha.out.grown g)
  replace Hb := Lib.hid (Hb.out.grown g)
  replace Hr1 := Lib.hid (Hr1.out.grown g)
  replace HB5 := Lib.hid (And.intro (World.grownBy.cell g HB5.out.1 (by simp)) (World.grownBy.cell g HB5.out.2 (by simp)))
  replace HB6 := Lib.hid (And.intro (World.grownBy.cell g HB6.out.1 (by simp)) (World.grownBy.cell g HB6.out.2 (by simp)))
  replace HG := Lib.hid (World.grownBy.trans HG.out g)
  clear g
  have HB7 := Lib.hid (And.intro hbx.2.1 hbx.2.2.1)
  clear hbx
  have qB50 := HB5.out.1
  have qB51 := HB5.out.2
  have qB60 := HB6.out.1
  have qB61 := HB6.out.2
  have qB70 := HB7.out.1
  have qB71 := HB7.out.2
  go_wp2_with fail
  clear qB50 qB51 qB60 qB61 qB70 qB71
  refine (joinV (k := 2) (j := 2) 2 (by omega) vL1.out vL2.out hn1 hn5 (by omega) (by omega) (by omega) (by omega) (by omega) (by omega) (by rw [← EL1.out, ← EL2.out]; exact EL4.out) ZL1.out ZL2.out ZL4.out _ _ _ _ _ Ha.out Hb.out).mono ?_
  rintro e V8 ⟨xr2, yr2, rfl, hr, g⟩
  replace Ha := Lib.hid (Ha.out.grown g)
  replace Hb := Lib.hid (Hb.out.grown g)
  replace Hr1 := Lib.hid (Hr1.out.grown g)
  replace HB5 := Lib.hid (And.intro (World.grownBy.cell g HB5.out.1 (by simp)) (World.grownBy.cell g HB5.out.2 (by simp)))
  replace HB6 := Lib.hid (And.intro (World.grownBy.cell g HB6.out.1 (by simp)) (World.grownBy.cell g HB6.out.2 (by simp)))
  replace HB7 := Lib.hid (And.intro (World.grownBy.cell g HB7.out.1 (by simp)) (World.grownBy.cell g HB7.out.2 (by simp)))
  replace HG := Lib.hid (World.grownBy.trans HG.out g)
  clear g
  have Hr2 := Lib.hid hr
  clear hr
  have qB50 := HB5.out.1
  have qB51 := HB5.out.2
  have qB60 := HB6.out.1
  have qB61 := HB6.out.2
  have qB70 := HB7.out.1
  have qB71 := HB7.out.2
  go_upto_region 7 with fail
  clear qB50 qB51 qB60 qB61 qB70 qB71
  have hbx := one_cells V8 (.int .i64 2) (.slice xr2 lL4 yr2) 27
  have g := World.grownBy_alloc V8 (.cells #[.int .i64 2, .slice xr2 lL4 yr2] 27) none
  obtain ⟨V9, hV9⟩ : ∃ z, World.alloc V8 (.cells #[.int .i64 2, .slice xr2 lL4 yr2] 27) = z := ⟨_, rfl⟩
  rw [hV9] at g hbx ⊢
  clear hV9
  obtain ⟨bB8, hb⟩ : ∃ b, V8.heap.size = b := ⟨_, rfl⟩
  rw [hb] at hbx ⊢
  clear hb
  replace Ha := Lib.hid (Ha.out.grown g)
  replace Hb := Lib.hid (Hb.out.grown g)
  replace Hr1 := Lib.hid (Hr1.out.grown g)
  replace Hr2 := Lib.hid (Hr2.out.grown g)
  replace HB5 := Lib.hid (And.intro (World.grownBy.cell g HB5.out.1 (by simp)) (World.grownBy.cell g HB5.out.2 (by simp)))
  replace HB6 := Lib.hid (And.intro (World.grownBy.cell g HB6.out.1 (by simp)) (World.grownBy.cell g HB6.out.2 (by simp)))
  replace HB7 := Lib.hid (And.intro (World.grownBy.cell g HB7.out.1 (by simp)) (World.grownBy.cell g HB7.out.2 (by simp)))
  replace HG := Lib.hid (World.grownBy.trans HG.out g)
  clear g
  have HB8 := Lib.hid (And.intro hbx.2.1 hbx.2.2.1)
  clear hbx
  go_cut [10, 11] (fun s0 s1 wx => ∃ p x y, s0 = .pointer (some ⟨p, 0, none⟩) ∧ s1 = .int .i64 0 ∧ (wx.cell? ⟨p, 0, none⟩ = some (.int .i64 2) ∧ wx.cell? ⟨p, 1, none⟩ = some (.slice x lL7 y)) ∧ IntsW wx x y L7 ∧ V9.grownBy wx none)
  case first =>
    have HS := Lib.hid (fun (Wh : World) (hWh : V9.grownBy Wh none) => (⟨hWh, hWh.cell HB5.out.1 (by simp), hWh.cell HB5.out.2 (by simp), hWh.cell HB6.out.1 (by simp), hWh.cell HB6.out.2 (by simp), hWh.cell HB7.out.1 (by simp), hWh.cell HB7.out.2 (by simp), hWh.cell HB8.out.1 (by simp), hWh.cell HB8.out.2 (by simp)⟩ : (fun Wh : World => V9.grownBy Wh none ∧ Wh.cell? ⟨bB5, 0, none⟩ = some (.int .i64 2) ∧ Wh.cell? ⟨bB5, 1, none⟩ = some (.slice xa lL1 ya) ∧ Wh.cell? ⟨bB6, 0, none⟩ = some (.int .i64 2) ∧ Wh.cell? ⟨bB6, 1, none⟩ = some (.slice xb lL2 yb) ∧ Wh.cell? ⟨bB7, 0, none⟩ = some (.int .i64 1) ∧ Wh.cell? ⟨bB7, 1, none⟩ = some (.slice xr1 lL3 yr1) ∧ Wh.cell? ⟨bB8, 0, none⟩ = some (.int .i64 2) ∧ Wh.cell? ⟨bB8, 1, none⟩ = some (.slice xr2 lL4 yr2)) Wh))
    have hdr : V9.grownBy V9.drew none := ⟨rfl, rfl, rfl, Nat.le_refl _, fun _ _ _ => rfl⟩
    refine wp_region_held_drew (S := (fun Wh : World => V9.grownBy Wh none ∧ Wh.cell? ⟨bB5, 0, none⟩ = some (.int .i64 2) ∧ Wh.cell? ⟨bB5, 1, none⟩ = some (.slice xa lL1 ya) ∧ Wh.cell? ⟨bB6, 0, none⟩ = some (.int .i64 2) ∧ Wh.cell? ⟨bB6, 1, none⟩ = some (.slice xb lL2 yb) ∧ Wh.cell? ⟨bB7, 0, none⟩ = some (.int .i64 1) ∧ Wh.cell? ⟨bB7, 1, none⟩ = some (.slice xr1 lL3 yr1) ∧ Wh.cell? ⟨bB8, 0, none⟩ = some (.int .i64 2) ∧ Wh.cell? ⟨bB8, 1, none⟩ = some (.slice xr2 lL4 yr2))) (by kernel_rfl) (HS.out _ hdr) (fun hHeld => ?_)
    refine wpAnyH_take (i := 0) (oi := { dst := some 38, op := Op.move (Operand.tmp 4), type := 3, pos := "law.go:162", after := #[], guard := none }) (v := ?_) rfl (by kernel_rfl) (by kernel_rfl) (by kernel_rfl) (fun _ _ _ h => h) (Or.inl ⟨by rfl, ?_⟩) (by assumption) ?_
    rotate_left 1
    · (intro W hSW; (try dsimp only at hSW); first | (go_simp; done) | (go_simp; with_reducible rfl))
    try simp only [Act.put, List.setIfInBounds_toArray, List.set_cons_zero, List.set_cons_succ]
    refine wpAnyH_take (i := 1) (oi := { dst := some 39, op := Op.move (Operand.tmp 4), type := 3, pos := "law.go:162", after := #[], guard := none }) (v := ?_) rfl (by kernel_rfl) (by kernel_rfl) (by kernel_rfl) (fun _ _ _ h => h) (Or.inl ⟨by rfl, ?_⟩) (by assumption) ?_
    rotate_left 1
    · (intro W hSW; (try dsimp only at hSW); first | (go_simp; done) | (go_simp; with_reducible rfl))
    try simp only [Act.put, List.setIfInBounds_toArray, List.set_cons_zero, List.set_cons_succ]
    refine wpAnyH_take (i := 2) (oi := { dst := some 40, op := Op.load 27 (Operand.tmp 6), type := 27, pos := "law.go:162", after := #[], guard := none }) (v := ?_) rfl (by kernel_rfl) (by kernel_rfl) (by kernel_rfl) (fun _ _ _ h => h) (Or.inl ⟨by rfl, ?_⟩) (by assumption) ?_
    rotate_left 1
    · (intro W hSW; (try dsimp only at hSW); first | (go_simp; done) | (go_simp; with_reducible rfl))
    try simp only [Act.put, List.setIfInBounds_toArray, List.set_cons_zero, List.set_cons_succ]
    refine wpAnyH_take (i := 4) (oi := { dst := some 42, op := Op.move (Operand.tmp 4), type := 3, pos := "law.go:162", after := #[], guard := none }) (v := ?_) rfl (by kernel_rfl) (by kernel_rfl) (by kernel_rfl) (fun _ _ _ h => h) (Or.inl ⟨by rfl, ?_⟩) (by assumption) ?_
    rotate_left 1
    · (intro W hSW; (try dsimp only at hSW); first | (go_simp; done) | (go_simp; with_reducible rfl))
    try simp only [Act.put, List.setIfInBounds_toArray, List.set_cons_zero, List.set_cons_succ]
    refine wpAnyH_take (i := 5) (oi := { dst := some 43, op := Op.load 27 (Operand.tmp 5), type := 27, pos := "law.go:162", after := #[], guard := none }) (v := ?_) rfl (by kernel_rfl) (by kernel_rfl) (by kernel_rfl) (fun _ _ _ h => h) (Or.inl ⟨by rfl, ?_⟩) (by assumption) ?_
    rotate_left 1
    · (intro W hSW; (try dsimp only at hSW); first | (go_simp; done) | (go_simp; with_reducible rfl))
    try simp only [Act.put, List.setIfInBounds_toArray, List.set_cons_zero, List.set_cons_succ]
    refine wpAnyH_ready (rs := [3, 11]) (by kernel_rfl) (by simp) ?_
    refine (AllReadyH.cons (o := { dst := some 41, op := Op.call { callee := Callee.value (Operand.func 21), args := #[Operand.tmp 39, Operand.tmp 40], argTypes := #[3, 27] }, type := 27, pos := "law.go:162", after := #[{ on := 1, ground := Ground.data }, { on := 2, ground := Ground.data }], guard := none }) rfl (fun K hK => ?_) (AllReadyH.cons (o := { dst := some 10, op := Op.alloc 27, type := 0, pos := "law.go:162", after := #[], guard := none }) rfl (fun K hK => ?_) AllReadyH.nil))
    · rw [if_pos (by rfl)]
      go_simp
      go_at_call 21
      refine (turnV vL2.out hn1 hn5 (by rw [← EL2.out]; exact EL5.out) ZL2.out ZL5.out _ _ _ (Hb.out.grown hdr)).mono ?_
      rintro e wc3 ⟨xr3, yr3, rfl, hrr3, gc3⟩
      have hgr3 := World.grownBy.trans hdr gc3
      go_wp2_with fail
      refine hK.out _ _ (HS.out _ hgr3) (fun hHeld => ?_)
      clear hK K
      try simp only [Act.put, List.setIfInBounds_toArray, List.set_cons_zero, List.set_cons_succ]
      refine wpAnyH_ready (rs := [6, 11]) (by kernel_rfl) (by simp) ?_
      refine (AllReadyH.cons (o := { dst := some 44, op := Op.call { callee := Callee.value (Operand.func 21), args := #[Operand.tmp 42, Operand.tmp 43], argTypes := #[3, 27] }, type := 27, pos := "law.go:162", after := #[{ on := 4, ground := Ground.data }, { on := 5, ground := Ground.data }, { on := 3, ground := Ground.chain }], guard := none }) rfl (fun K hK => ?_) (AllReadyH.cons (o := { dst := some 10, op := Op.alloc 27, type := 0, pos := "law.go:162", after := #[], guard := none }) rfl (fun K hK => ?_) AllReadyH.nil))
      · rw [if_pos (by rfl)]
        go_simp
        go_at_call 21
        refine (turnV vL1.out hn1 hn5 (by rw [← EL1.out]; exact EL6.out) ZL1.out ZL6.out _ _ _ (Ha.out.grown hgr3)).mono ?_
        rintro e wc6 ⟨xr4, yr4, rfl, hrr4, gc6⟩
        have hgr6 := World.grownBy.trans hgr3 gc6
        go_wp2_with fail
        refine hK.out _ _ (HS.out _ hgr6) (fun hHeld => ?_)
        clear hK K
        try simp only [Act.put, List.setIfInBounds_toArray, List.set_cons_zero, List.set_cons_succ]
        refine wpAnyH_ready (rs := [7, 11]) (by kernel_rfl) (by simp) ?_
        refine (AllReadyH.cons (o := { dst := some 45, op := Op.call { callee := Callee.value (Operand.func 15), args := #[Operand.tmp 38, Operand.tmp 41, Operand.tmp 44], argTypes := #[3, 27, 27] }, type := 34, pos := "law.go:162", after := #[{ on := 0, ground := Ground.data }, { on := 3, ground := Ground.data }, { on := 6, ground := Ground.data }, { on := 6, ground := Ground.chain }], guard := none }) rfl (fun K hK => ?_) (AllReadyH.cons (o := { dst := some 10, op := Op.alloc 27, type := 0, pos := "law.go:162", after := #[], guard := none }) rfl (fun K hK => ?_) AllReadyH.nil))
        · rw [if_pos (by rfl)]
          go_simp
          go_at_call 15
          refine (joinS (k := 2) (j := 2) 2 (by omega) vL5.out vL6.out hn1 hn5 (by omega) (by omega) (by omega) (by omega) (by omega) (by omega) (by rw [← EL5.out, ← EL6.out]; exact EL7.out) ZL5.out ZL6.out ZL7.out _ _ _ _ _ (hrr3.grown gc6) hrr4).mono ?_
          rintro e wc7 ⟨xr5, yr5, rfl, hrr5, gc7⟩
          have hgr7 := World.grownBy.trans hgr6 gc7
          go_wp2_with fail
          refine hK.out _ _ (HS.out _ hgr7) (fun hHeld => ?_)
          clear hK K
          try simp only [Act.put, List.setIfInBounds_toArray, List.set_cons_zero, List.set_cons_succ]
          refine wpAnyH_take (i := 8) (oi := { dst := some 37, op := Op.move (Operand.tmp 45), type := 34, pos := "law.go:162", after := #[{ on := 7, ground := Ground.data }], guard := none }) (v := ?_) rfl (by kernel_rfl) (by kernel_rfl) (by kernel_rfl) (fun _ _ _ h => h) (Or.inl ⟨by rfl, ?_⟩) (by assumption) ?_
          rotate_left 1
          · (intro W hSW; (try dsimp only at hSW); first | (go_simp; done) | (go_simp; with_reducible rfl))
          try simp only [Act.put, List.setIfInBounds_toArray, List.set_cons_zero, List.set_cons_succ]
          refine wpAnyH_take (i := 9) (oi := { dst := some 46, op := Op.extract (Operand.tmp 37) 0, type := 27, pos := "law.go:162", after := #[{ on := 8, ground := Ground.data }], guard := none }) (v := ?_) rfl (by kernel_rfl) (by kernel_rfl) (by kernel_rfl) (fun _ _ _ h => h) (Or.inl ⟨by rfl, ?_⟩) (by assumption) ?_
          rotate_left 1
          · (intro W hSW; (try dsimp only at hSW); first | (go_simp; done) | (go_simp; with_reducible rfl))
          try simp only [Act.put, List.setIfInBounds_toArray, List.set_cons_zero, List.set_cons_succ]
          refine wpAnyH_take (i := 10) (oi := { dst := some 47, op := Op.extract (Operand.tmp 37) 1, type := 33, pos := "law.go:162", after := #[{ on := 8, ground := Ground.data }, { on := 12, ground := Ground.gcOnly Departure.lateStores }], guard := none }) (v := ?_) rfl (by kernel_rfl) (by kernel_rfl) (by kernel_rfl) (fun _ _ _ h => h) (Or.inl ⟨by rfl, ?_⟩) (by assumption) ?_
          rotate_left 1
          · (intro W hSW; (try dsimp only at hSW); first | (go_simp; done) | (go_simp; with_reducible rfl))
          try simp only [Act.put, List.setIfInBounds_toArray, List.set_cons_zero, List.set_cons_succ]
          refine wpAnyH_ready (rs := [11]) (by kernel_rfl) (by simp) ?_
          refine (AllReadyH.cons (o := { dst := some 10, op := Op.alloc 27, type := 0, pos := "law.go:162", after := #[], guard := none }) rfl (fun K hK => ?_) AllReadyH.nil)
          rw [if_pos (by rfl)]
          go_simp
          have hgaA : V9.grownBy (World.alloc wc7 (.cells #[.int .i64 0, .slice none 0 0] 27)) none := World.grownBy.trans hgr7 (World.grownBy_alloc wc7 (.cells #[.int .i64 0, .slice none 0 0] 27) none)
          have halA : wc7.grownBy (World.alloc wc7 (.cells #[.int .i64 0, .slice none 0 0] 27)) none := World.grownBy_alloc wc7 (.cells #[.int .i64 0, .slice none 0 0] 27) none
          have hz := Two.new wc7 (.int .i64 0) (.slice none 0 0) 27
          have hgeq : V9.heap.size ≤ wc7.heap.size := World.grownBy.size hgr7
          have hgeA : ∀ p, wc7.heap.size = p → V9.heap.size ≤ p := fun p e => by rw [← e]; exact hgeq
          clear hgeq
          obtain ⟨WA, hWA⟩ : ∃ z, World.alloc wc7 (.cells #[.int .i64 0, .slice none 0 0] 27) = z := ⟨_, rfl⟩
          rw [hWA] at hgaA halA hz ⊢
          clear hWA
          obtain ⟨pA, hpA⟩ : ∃ p, wc7.heap.size = p := ⟨_, rfl⟩
          replace hgeA := hgeA pA hpA
          rw [hpA] at hz ⊢
          have hpHi := Nat.le_of_eq hpA
          clear hpA
          refine hK.out _ _ (HS.out _ hgaA) (fun hHeld => ?_)
          clear hK K
          try simp only [Act.put, List.setIfInBounds_toArray, List.set_cons_zero, List.set_cons_succ]
          refine wpAnyH_ready (rs := [12]) (by kernel_rfl) (by simp) ?_
          refine (AllReadyH.cons (o := { dst := none, op := Op.store 27 (Operand.tmp 10) (Operand.tmp 46), type := 0, pos := "law.go:162", after := #[{ on := 11, ground := Ground.data }, { on := 9, ground := Ground.data }, { on := 7, ground := Ground.chain }, { on := 0, ground := Ground.phase }, { on := 1, ground := Ground.phase }, { on := 2, ground := Ground.phase }, { on := 3, ground := Ground.phase }, { on := 4, ground := Ground.phase }, { on := 5, ground := Ground.phase }, { on := 6, ground := Ground.phase }, { on := 7, ground := Ground.phase }, { on := 8, ground := Ground.phase }, { on := 9, ground := Ground.phase }, { on := 10, ground := Ground.textOnly Departure.lateStores }, { on := 11, ground := Ground.phase }], guard := none }) rfl (fun K hK => ?_) AllReadyH.nil)
          rw [if_pos (by rfl)]
          have hzz := hz
          obtain ⟨⟨x0, x1⟩, xf⟩ := hzz
          have xf0 := xf 0
          have xf1 := xf 1
          clear xf
          go_simp
          clear x0 x1 xf0 xf1
          have hst := two_set hz (.int .i64 2) (.slice xr5 lL7 yr5)
          have hgaS := grown_own hgaA hst.2 (fun k hk => by cases hk; exact hgeA)
          have hrS := ((hrr5.grown halA).off hst.2 (fun x e => by cases e; exact .inr hpHi)).here
          replace hz := hst.1
          clear hst
          obtain ⟨WS, hWS⟩ : ∃ z, (World.setCell (World.setCell WA ⟨pA, 0, none⟩ (.int .i64 2)) ⟨pA, 1, none⟩ (.slice xr5 lL7 yr5)) = z := ⟨_, rfl⟩
          rw [hWS] at hgaS hz hrS ⊢
          clear hWS
          refine hK.out _ _ (HS.out _ hgaS) (fun hHeld => ?_)
          clear hK K
          try simp only [Act.put, List.setIfInBounds_toArray, List.set_cons_zero, List.set_cons_succ]
          refine wpAnyH_take (i := 13) (oi := { dst := some 11, op := Op.assign (Operand.tmp 47), type := 33, pos := "law.go:162", after := #[{ on := 10, ground := Ground.data }, { on := 12, ground := Ground.chain }, { on := 0, ground := Ground.phase }, { on := 1, ground := Ground.phase }, { on := 2, ground := Ground.phase }, { on := 3, ground := Ground.phase }, { on := 4, ground := Ground.phase }, { on := 5, ground := Ground.phase }, { on := 6, ground := Ground.phase }, { on := 7, ground := Ground.phase }, { on := 8, ground := Ground.phase }, { on := 9, ground := Ground.phase }, { on := 10, ground := Ground.phase }, { on := 11, ground := Ground.phase }, { on := 12, ground := Ground.phase }], guard := none }) (v := ?_) rfl (by kernel_rfl) (by kernel_rfl) (by kernel_rfl) (fun _ _ _ h => h) (Or.inl ⟨by rfl, ?_⟩) (by assumption) ?_
          rotate_left 1
          · (intro W hSW; (try dsimp only at hSW); first | (go_simp; done) | (go_simp; with_reducible rfl))
          try simp only [Act.put, List.setIfInBounds_toArray, List.set_cons_zero, List.set_cons_succ]
          refine wpAnyH_done (by kernel_rfl) ?_ _
          have hEND := hgaS
          clear hHeld
          go_wp2_with fail
          go_meet
          exact ⟨pA, xr5, yr5, rfl, rfl, hz.1, hrS, hEND⟩
        · rw [if_pos (by rfl)]
          go_simp
          have hgaA : V9.grownBy (World.alloc wc6 (.cells #[.int .i64 0, .slice none 0 0] 27)) none := World.grownBy.trans hgr6 (World.grownBy_alloc wc6 (.cells #[.int .i64 0, .slice none 0 0] 27) none)
          have halA : wc6.grownBy (World.alloc wc6 (.cells #[.int .i64 0, .slice none 0 0] 27)) none := World.grownBy_alloc wc6 (.cells #[.int .i64 0, .slice none 0 0] 27) none
          have hz := Two.new wc6 (.int .i64 0) (.slice none 0 0) 27
          have hgeq : V9.heap.size ≤ wc6.heap.size := World.grownBy.size hgr6
          have hgeA : ∀ p, wc6.heap.size = p → V9.heap.size ≤ p := fun p e => by rw [← e]; exact hgeq
          clear hgeq
          obtain ⟨WA, hWA⟩ : ∃ z, World.alloc wc6 (.cells #[.int .i64 0, .slice none 0 0] 27) = z := ⟨_, rfl⟩
          rw [hWA] at hgaA halA hz ⊢
          clear hWA
          obtain ⟨pA, hpA⟩ : ∃ p, wc6.heap.size = p := ⟨_, rfl⟩
          replace hgeA := hgeA pA hpA
          rw [hpA] at hz ⊢
          clear hpA
          refine hK.out _ _ (HS.out _ hgaA) (fun hHeld => ?_)
          clear hK K
          try simp only [Act.put, List.setIfInBounds_toArray, List.set_cons_zero, List.set_cons_succ]
          refine wpAnyH_ready (rs := [7]) (by kernel_rfl) (by simp) ?_
          refine (AllReadyH.cons (o := { dst := some 45, op := Op.call { callee := Callee.value (Operand.func 15), args := #[Operand.tmp 38, Operand.tmp 41, Operand.tmp 44], argTypes := #[3, 27, 27] }, type := 34, pos := "law.go:162", after := #[{ on := 0, ground := Ground.data }, { on := 3, ground := Ground.data }, { on := 6, ground := Ground.data }, { on := 6, ground := Ground.chain }], guard := none }) rfl (fun K hK => ?_) AllReadyH.nil)
          rw [if_pos (by rfl)]
          go_simp
          go_at_call 15
          have hpLo := hz.lt
          refine (joinS (k := 2) (j := 2) 2 (by omega) vL5.out vL6.out hn1 hn5 (by omega) (by omega) (by omega) (by omega) (by omega) (by omega) (by rw [← EL5.out, ← EL6.out]; exact EL7.out) ZL5.out ZL6.out ZL7.out _ _ _ _ _ (hrr3.grown (World.grownBy.trans gc6 halA)) (hrr4.grown halA)).mono ?_
          rintro e wc7 ⟨xr5, yr5, rfl, hrr5, gc7⟩
          have hgr7 := World.grownBy.trans hgaA gc7
          replace hz := hz.off gc7 (fun x e => by cases e)
          go_wp2_with fail
          refine hK.out _ _ (HS.out _ hgr7) (fun hHeld => ?_)
          clear hK K
          try simp only [Act.put, List.setIfInBounds_toArray, List.set_cons_zero, List.set_cons_succ]
          refine wpAnyH_take (i := 8) (oi := { dst := some 37, op := Op.move (Operand.tmp 45), type := 34, pos := "law.go:162", after := #[{ on := 7, ground := Ground.data }], guard := none }) (v := ?_) rfl (by kernel_rfl) (by kernel_rfl) (by kernel_rfl) (fun _ _ _ h => h) (Or.inl ⟨by rfl, ?_⟩) (by assumption) ?_
          rotate_left 1
          · (intro W hSW; (try dsimp only at hSW); first | (go_simp; done) | (go_simp; with_reducible rfl))
          try simp only [Act.put, List.setIfInBounds_toArray, List.set_cons_zero, List.set_cons_succ]
          refine wpAnyH_take (i := 9) (oi := { dst := some 46, op := Op.extract (Operand.tmp 37) 0, type := 27, pos := "law.go:162", after := #[{ on := 8, ground := Ground.data }], guard := none }) (v := ?_) rfl (by kernel_rfl) (by kernel_rfl) (by kernel_rfl) (fun _ _ _ h => h) (Or.inl ⟨by rfl, ?_⟩) (by assumption) ?_
          rotate_left 1
          · (intro W hSW; (try dsimp only at hSW); first | (go_simp; done) | (go_simp; with_reducible rfl))
          try simp only [Act.put, List.setIfInBounds_toArray, List.set_cons_zero, List.set_cons_succ]
          refine wpAnyH_take (i := 10) (oi := { dst := some 47, op := Op.extract (Operand.tmp 37) 1, type := 33, pos := "law.go:162", after := #[{ on := 8, ground := Ground.data }, { on := 12, ground := Ground.gcOnly Departure.lateStores }], guard := none }) (v := ?_) rfl (by kernel_rfl) (by kernel_rfl) (by kernel_rfl) (fun _ _ _ h => h) (Or.inl ⟨by rfl, ?_⟩) (by assumption) ?_
          rotate_left 1
          · (intro W hSW; (try dsimp only at hSW); first | (go_simp; done) | (go_simp; with_reducible rfl))
          try simp only [Act.put, List.setIfInBounds_toArray, List.set_cons_zero, List.set_cons_succ]
          refine wpAnyH_ready (rs := [12]) (by kernel_rfl) (by simp) ?_
          refine (AllReadyH.cons (o := { dst := none, op := Op.store 27 (Operand.tmp 10) (Operand.tmp 46), type := 0, pos := "law.go:162", after := #[{ on := 11, ground := Ground.data }, { on := 9, ground := Ground.data }, { on := 7, ground := Ground.chain }, { on := 0, ground := Ground.phase }, { on := 1, ground := Ground.phase }, { on := 2, ground := Ground.phase }, { on := 3, ground := Ground.phase }, { on := 4, ground := Ground.phase }, { on := 5, ground := Ground.phase }, { on := 6, ground := Ground.phase }, { on := 7, ground := Ground.phase }, { on := 8, ground := Ground.phase }, { on := 9, ground := Ground.phase }, { on := 10, ground := Ground.textOnly Departure.lateStores }, { on := 11, ground := Ground.phase }], guard := none }) rfl (fun K hK => ?_) AllReadyH.nil)
          rw [if_pos (by rfl)]
          have hzz := hz
          obtain ⟨⟨x0, x1⟩, xf⟩ := hzz
          have xf0 := xf 0
          have xf1 := xf 1
          clear xf
          go_simp
          clear x0 x1 xf0 xf1
          have hst := two_set hz (.int .i64 2) (.slice xr5 lL7 yr5)
          have hgaS := grown_own hgr7 hst.2 (fun k hk => by cases hk; exact hgeA)
          have hrS := (hrr5.off hst.2 (fun x e => by cases e; exact .inl hpLo)).here
          replace hz := hst.1
          clear hst
          obtain ⟨WS, hWS⟩ : ∃ z, (World.setCell (World.setCell wc7 ⟨pA, 0, none⟩ (.int .i64 2)) ⟨pA, 1, none⟩ (.slice xr5 lL7 yr5)) = z := ⟨_, rfl⟩
          rw [hWS] at hgaS hz hrS ⊢
          clear hWS
          refine hK.out _ _ (HS.out _ hgaS) (fun hHeld => ?_)
          clear hK K
          try simp only [Act.put, List.setIfInBounds_toArray, List.set_cons_zero, List.set_cons_succ]
          refine wpAnyH_take (i := 13) (oi := { dst := some 11, op := Op.assign (Operand.tmp 47), type := 33, pos := "law.go:162", after := #[{ on := 10, ground := Ground.data }, { on := 12, ground := Ground.chain }, { on := 0, ground := Ground.phase }, { on := 1, ground := Ground.phase }, { on := 2, ground := Ground.phase }, { on := 3, ground := Ground.phase }, { on := 4, ground := Ground.phase }, { on := 5, ground := Ground.phase }, { on := 6, ground := Ground.phase }, { on := 7, ground := Ground.phase }, { on := 8, ground := Ground.phase }, { on := 9, ground := Ground.phase }, { on := 10, ground := Ground.phase }, { on := 11, ground := Ground.phase }, { on := 12, ground := Ground.phase }], guard := none }) (v := ?_) rfl (by kernel_rfl) (by kernel_rfl) (by kernel_rfl) (fun _ _ _ h => h) (Or.inl ⟨by rfl, ?_⟩) (by assumption) ?_
          rotate_left 1
          · (intro W hSW; (try dsimp only at hSW); first | (go_simp; done) | (go_simp; with_reducible rfl))
          try simp only [Act.put, List.setIfInBounds_toArray, List.set_cons_zero, List.set_cons_succ]
          refine wpAnyH_done (by kernel_rfl) ?_ _
          have hEND := hgaS
          clear hHeld
          go_wp2_with fail
          go_meet
          exact ⟨pA, xr5, yr5, rfl, rfl, hz.1, hrS, hEND⟩
      · rw [if_pos (by rfl)]
        go_simp
        have hgaA : V9.grownBy (World.alloc wc3 (.cells #[.int .i64 0, .slice none 0 0] 27)) none := World.grownBy.trans hgr3 (World.grownBy_alloc wc3 (.cells #[.int .i64 0, .slice none 0 0] 27) none)
        have halA : wc3.grownBy (World.alloc wc3 (.cells #[.int .i64 0, .slice none 0 0] 27)) none := World.grownBy_alloc wc3 (.cells #[.int .i64 0, .slice none 0 0] 27) none
        have hz := Two.new wc3 (.int .i64 0) (.slice none 0 0) 27
        have hgeq : V9.heap.size ≤ wc3.heap.size := World.grownBy.size hgr3
        have hgeA : ∀ p, wc3.heap.size = p → V9.heap.size ≤ p := fun p e => by rw [← e]; exact hgeq
        clear hgeq
        obtain ⟨WA, hWA⟩ : ∃ z, World.alloc wc3 (.cells #[.int .i64 0, .slice none 0 0] 27) = z := ⟨_, rfl⟩
        rw [hWA] at hgaA halA hz ⊢
        clear hWA
        obtain ⟨pA, hpA⟩ : ∃ p, wc3.heap.size = p := ⟨_, rfl⟩
        replace hgeA := hgeA pA hpA
        rw [hpA] at hz ⊢
        clear hpA
        refine hK.out _ _ (HS.out _ hgaA) (fun hHeld => ?_)
        clear hK K
        try simp only [Act.put, List.setIfInBounds_toArray, List.set_cons_zero, List.set_cons_succ]
        refine wpAnyH_ready (rs := [6]) (by kernel_rfl) (by simp) ?_
        refine (AllReadyH.cons (o := { dst := some 44, op := Op.call { callee := Callee.value (Operand.func 21), args := #[Operand.tmp 42, Operand.tmp 43], argTypes := #[3, 27] }, type := 27, pos := "law.go:162", after := #[{ on := 4, ground := Ground.data }, { on := 5, ground := Ground.data }, { on := 3, ground := Ground.chain }], guard := none }) rfl (fun K hK => ?_) AllReadyH.nil)
        rw [if_pos (by rfl)]
        go_simp
        go_at_call 21
        refine (turnV vL1.out hn1 hn5 (by rw [← EL1.out]; exact EL6.out) ZL1.out ZL6.out _ _ _ (Ha.out.grown hgaA)).mono ?_
        rintro e wc6 ⟨xr4, yr4, rfl, hrr4, gc6⟩
        have hgr6 := World.grownBy.trans hgaA gc6
        replace hz := hz.off gc6 (fun x e => by cases e)
        go_wp2_with fail
        refine hK.out _ _ (HS.out _ hgr6) (fun hHeld => ?_)
        clear hK K
        try simp only [Act.put, List.setIfInBounds_toArray, List.set_cons_zero, List.set_cons_succ]
        refine wpAnyH_ready (rs := [7]) (by kernel_rfl) (by simp) ?_
        refine (AllReadyH.cons (o := { dst := some 45, op := Op.call { callee := Callee.value (Operand.func 15), args := #[Operand.tmp 38, Operand.tmp 41, Operand.tmp 44], argTypes := #[3, 27, 27] }, type := 34, pos := "law.go:162", after := #[{ on := 0, ground := Ground.data }, { on := 3, ground := Ground.data }, { on := 6, ground := Ground.data }, { on := 6, ground := Ground.chain }], guard := none }) rfl (fun K hK => ?_) AllReadyH.nil)
        rw [if_pos (by rfl)]
        go_simp
        go_at_call 15
        have hpLo := hz.lt
        refine (joinS (k := 2) (j := 2) 2 (by omega) vL5.out vL6.out hn1 hn5 (by omega) (by omega) (by omega) (by omega) (by omega) (by omega) (by rw [← EL5.out, ← EL6.out]; exact EL7.out) ZL5.out ZL6.out ZL7.out _ _ _ _ _ (hrr3.grown (World.grownBy.trans halA gc6)) hrr4).mono ?_
        rintro e wc7 ⟨xr5, yr5, rfl, hrr5, gc7⟩
        have hgr7 := World.grownBy.trans hgr6 gc7
        replace hz := hz.off gc7 (fun x e => by cases e)
        go_wp2_with fail
        refine hK.out _ _ (HS.out _ hgr7) (fun hHeld => ?_)
        clear hK K
        try simp only [Act.put, List.setIfInBounds_toArray, List.set_cons_zero, List.set_cons_succ]
        refine wpAnyH_take (i := 8) (oi := { dst := some 37, op := Op.move (Operand.tmp 45), type := 34, pos := "law.go:162", after := #[{ on := 7, ground := Ground.data }], guard := none }) (v := ?_) rfl (by kernel_rfl) (by kernel_rfl) (by kernel_rfl) (fun _ _ _ h => h) (Or.inl ⟨by rfl, ?_⟩) (by assumption) ?_
        rotate_left 1
        · (intro W hSW; (try dsimp only at hSW); first | (go_simp; done) | (go_simp; with_reducible rfl))
        try simp only [Act.put, List.setIfInBounds_toArray, List.set_cons_zero, List.set_cons_succ]
        refine wpAnyH_take (i := 9) (oi := { dst := some 46, op := Op.extract (Operand.tmp 37) 0, type := 27, pos := "law.go:162", after := #[{ on := 8, ground := Ground.data }], guard := none }) (v := ?_) rfl (by kernel_rfl) (by kernel_rfl) (by kernel_rfl) (fun _ _ _ h => h) (Or.inl ⟨by rfl, ?_⟩) (by assumption) ?_
        rotate_left 1
        · (intro W hSW; (try dsimp only at hSW); first | (go_simp; done) | (go_simp; with_reducible rfl))
        try simp only [Act.put, List.setIfInBounds_toArray, List.set_cons_zero, List.set_cons_succ]
        refine wpAnyH_take (i := 10) (oi := { dst := some 47, op := Op.extract (Operand.tmp 37) 1, type := 33, pos := "law.go:162", after := #[{ on := 8, ground := Ground.data }, { on := 12, ground := Ground.gcOnly Departure.lateStores }], guard := none }) (v := ?_) rfl (by kernel_rfl) (by kernel_rfl) (by kernel_rfl) (fun _ _ _ h => h) (Or.inl ⟨by rfl, ?_⟩) (by assumption) ?_
        rotate_left 1
        · (intro W hSW; (try dsimp only at hSW); first | (go_simp; done) | (go_simp; with_reducible rfl))
        try simp only [Act.put, List.setIfInBounds_toArray, List.set_cons_zero, List.set_cons_succ]
        refine wpAnyH_ready (rs := [12]) (by kernel_rfl) (by simp) ?_
        refine (AllReadyH.cons (o := { dst := none, op := Op.store 27 (Operand.tmp 10) (Operand.tmp 46), type := 0, pos := "law.go:162", after := #[{ on := 11, ground := Ground.data }, { on := 9, ground := Ground.data }, { on := 7, ground := Ground.chain }, { on := 0, ground := Ground.phase }, { on := 1, ground := Ground.phase }, { on := 2, ground := Ground.phase }, { on := 3, ground := Ground.phase }, { on := 4, ground := Ground.phase }, { on := 5, ground := Ground.phase }, { on := 6, ground := Ground.phase }, { on := 7, ground := Ground.phase }, { on := 8, ground := Ground.phase }, { on := 9, ground := Ground.phase }, { on := 10, ground := Ground.textOnly Departure.lateStores }, { on := 11, ground := Ground.phase }], guard := none }) rfl (fun K hK => ?_) AllReadyH.nil)
        rw [if_pos (by rfl)]
        have hzz := hz
        obtain ⟨⟨x0, x1⟩, xf⟩ := hzz
        have xf0 := xf 0
        have xf1 := xf 1
        clear xf
        go_simp
        clear x0 x1 xf0 xf1
        have hst := two_set hz (.int .i64 2) (.slice xr5 lL7 yr5)
        have hgaS := grown_own hgr7 hst.2 (fun k hk => by cases hk; exact hgeA)
        have hrS := (hrr5.off hst.2 (fun x e => by cases e; exact .inl hpLo)).here
        replace hz := hst.1
        clear hst
        obtain ⟨WS, hWS⟩ : ∃ z, (World.setCell (World.setCell wc7 ⟨pA, 0, none⟩ (.int .i64 2)) ⟨pA, 1, none⟩ (.slice xr5 lL7 yr5)) = z := ⟨_, rfl⟩
        rw [hWS] at hgaS hz hrS ⊢
        clear hWS
        refine hK.out _ _ (HS.out _ hgaS) (fun hHeld => ?_)
        clear hK K
        try simp only [Act.put, List.setIfInBounds_toArray, List.set_cons_zero, List.set_cons_succ]
        refine wpAnyH_take (i := 13) (oi := { dst := some 11, op := Op.assign (Operand.tmp 47), type := 33, pos := "law.go:162", after := #[{ on := 10, ground := Ground.data }, { on := 12, ground := Ground.chain }, { on := 0, ground := Ground.phase }, { on := 1, ground := Ground.phase }, { on := 2, ground := Ground.phase }, { on := 3, ground := Ground.phase }, { on := 4, ground := Ground.phase }, { on := 5, ground := Ground.phase }, { on := 6, ground := Ground.phase }, { on := 7, ground := Ground.phase }, { on := 8, ground := Ground.phase }, { on := 9, ground := Ground.phase }, { on := 10, ground := Ground.phase }, { on := 11, ground := Ground.phase }, { on := 12, ground := Ground.phase }], guard := none }) (v := ?_) rfl (by kernel_rfl) (by kernel_rfl) (by kernel_rfl) (fun _ _ _ h => h) (Or.inl ⟨by rfl, ?_⟩) (by assumption) ?_
        rotate_left 1
        · (intro W hSW; (try dsimp only at hSW); first | (go_simp; done) | (go_simp; with_reducible rfl))
        try simp only [Act.put, List.setIfInBounds_toArray, List.set_cons_zero, List.set_cons_succ]
        refine wpAnyH_done (by kernel_rfl) ?_ _
        have hEND := hgaS
        clear hHeld
        go_wp2_with fail
        go_meet
        exact ⟨pA, xr5, yr5, rfl, rfl, hz.1, hrS, hEND⟩
    · rw [if_pos (by rfl)]
      go_simp
      have hgaA : V9.grownBy ((World.alloc V9 (.cells #[.int .i64 0, .slice none 0 0] 27)).drew) none := World.grownBy.trans (World.grownBy_alloc V9 (.cells #[.int .i64 0, .slice none 0 0] 27) none) (⟨rfl, rfl, rfl, Nat.le_refl _, fun _ _ _ => rfl⟩ : (World.alloc V9 (.cells #[.int .i64 0, .slice none 0 0] 27)).grownBy (World.alloc V9 (.cells #[.int .i64 0, .slice none 0 0] 27)).drew none)
      have halA : V9.drew.grownBy ((World.alloc V9 (.cells #[.int .i64 0, .slice none 0 0] 27)).drew) none := World.grownBy_alloc V9.drew (.cells #[.int .i64 0, .slice none 0 0] 27) none
      have hz := (Two.new V9 (.int .i64 0) (.slice none 0 0) 27).off (⟨rfl, rfl, rfl, Nat.le_refl _, fun _ _ _ => rfl⟩ : (World.alloc V9 (.cells #[.int .i64 0, .slice none 0 0] 27)).grownBy (World.alloc V9 (.cells #[.int .i64 0, .slice none 0 0] 27)).drew none) (fun x e => by cases e)
      have hgeq : V9.heap.size ≤ V9.heap.size := Nat.le_refl _
      have hgeA : ∀ p, V9.heap.size = p → V9.heap.size ≤ p := fun p e => by rw [← e]; exact hgeq
      clear hgeq
      obtain ⟨WA, hWA⟩ : ∃ z, (World.alloc V9 (.cells #[.int .i64 0, .slice none 0 0] 27)).drew = z := ⟨_, rfl⟩
      rw [hWA] at hgaA halA hz ⊢
      clear hWA
      obtain ⟨pA, hpA⟩ : ∃ p, V9.heap.size = p := ⟨_, rfl⟩
      replace hgeA := hgeA pA hpA
      rw [hpA] at hz ⊢
      clear hpA
      refine hK.out _ _ (HS.out _ hgaA) (fun hHeld => ?_)
      clear hK K
      try simp only [Act.put, List.setIfInBounds_toArray, List.set_cons_zero, List.set_cons_succ]
      refine wpAnyH_ready (rs := [3]) (by kernel_rfl) (by simp) ?_
      refine (AllReadyH.cons (o := { dst := some 41, op := Op.call { callee := Callee.value (Operand.func 21), args := #[Operand.tmp 39, Operand.tmp 40], argTypes := #[3, 27] }, type := 27, pos := "law.go:162", after := #[{ on := 1, ground := Ground.data }, { on := 2, ground := Ground.data }], guard := none }) rfl (fun K hK => ?_) AllReadyH.nil)
      rw [if_pos (by rfl)]
      go_simp
      go_at_call 21
      refine (turnV vL2.out hn1 hn5 (by rw [← EL2.out]; exact EL5.out) ZL2.out ZL5.out _ _ _ (Hb.out.grown hgaA)).mono ?_
      rintro e wc3 ⟨xr3, yr3, rfl, hrr3, gc3⟩
      have hgr3 := World.grownBy.trans hgaA gc3
      replace hz := hz.off gc3 (fun x e => by cases e)
      go_wp2_with fail
      refine hK.out _ _ (HS.out _ hgr3) (fun hHeld => ?_)
      clear hK K
      try simp only [Act.put, List.setIfInBounds_toArray, List.set_cons_zero, List.set_cons_succ]
      refine wpAnyH_ready (rs := [6]) (by kernel_rfl) (by simp) ?_
      refine (AllReadyH.cons (o := { dst := some 44, op := Op.call { callee := Callee.value (Operand.func 21), args := #[Operand.tmp 42, Operand.tmp 43], argTypes := #[3, 27] }, type := 27, pos := "law.go:162", after := #[{ on := 4, ground := Ground.data }, { on := 5, ground := Ground.data }, { on := 3, ground := Ground.chain }], guard := none }) rfl (fun K hK => ?_) AllReadyH.nil)
      rw [if_pos (by rfl)]
      go_simp
      go_at_call 21
      refine (turnV vL1.out hn1 hn5 (by rw [← EL1.out]; exact EL6.out) ZL1.out ZL6.out _ _ _ (Ha.out.grown hgr3)).mono ?_
      rintro e wc6 ⟨xr4, yr4, rfl, hrr4, gc6⟩
      have hgr6 := World.grownBy.trans hgr3 gc6
      replace hz := hz.off gc6 (fun x e => by cases e)
      go_wp2_with fail
      refine hK.out _ _ (HS.out _ hgr6) (fun hHeld => ?_)
      clear hK K
      try simp only [Act.put, List.setIfInBounds_toArray, List.set_cons_zero, List.set_cons_succ]
      refine wpAnyH_ready (rs := [7]) (by kernel_rfl) (by simp) ?_
      refine (AllReadyH.cons (o := { dst := some 45, op := Op.call { callee := Callee.value (Operand.func 15), args := #[Operand.tmp 38, Operand.tmp 41, Operand.tmp 44], argTypes := #[3, 27, 27] }, type := 34, pos := "law.go:162", after := #[{ on := 0, ground := Ground.data }, { on := 3, ground := Ground.data }, { on := 6, ground := Ground.data }, { on := 6, ground := Ground.chain }], guard := none }) rfl (fun K hK => ?_) AllReadyH.nil)
      rw [if_pos (by rfl)]
      go_simp
      go_at_call 15
      have hpLo := hz.lt
      refine (joinS (k := 2) (j := 2) 2 (by omega) vL5.out vL6.out hn1 hn5 (by omega) (by omega) (by omega) (by omega) (by omega) (by omega) (by rw [← EL5.out, ← EL6.out]; exact EL7.out) ZL5.out ZL6.out ZL7.out _ _ _ _ _ (hrr3.grown gc6) hrr4).mono ?_
      rintro e wc7 ⟨xr5, yr5, rfl, hrr5, gc7⟩
      have hgr7 := World.grownBy.trans hgr6 gc7
      replace hz := hz.off gc7 (fun x e => by cases e)
      go_wp2_with fail
      refine hK.out _ _ (HS.out _ hgr7) (fun hHeld => ?_)
      clear hK K
      try simp only [Act.put, List.setIfInBounds_toArray, List.set_cons_zero, List.set_cons_succ]
      refine wpAnyH_take (i := 8) (oi := { dst := some 37, op := Op.move (Operand.tmp 45), type := 34, pos := "law.go:162", after := #[{ on := 7, ground := Ground.data }], guard := none }) (v := ?_) rfl (by kernel_rfl) (by kernel_rfl) (by kernel_rfl) (fun _ _ _ h => h) (Or.inl ⟨by rfl, ?_⟩) (by assumption) ?_
      rotate_left 1
      · (intro W hSW; (try dsimp only at hSW); first | (go_simp; done) | (go_simp; with_reducible rfl))
      try simp only [Act.put, List.setIfInBounds_toArray, List.set_cons_zero, List.set_cons_succ]
      refine wpAnyH_take (i := 9) (oi := { dst := some 46, op := Op.extract (Operand.tmp 37) 0, type := 27, pos := "law.go:162", after := #[{ on := 8, ground := Ground.data }], guard := none }) (v := ?_) rfl (by kernel_rfl) (by kernel_rfl) (by kernel_rfl) (fun _ _ _ h => h) (Or.inl ⟨by rfl, ?_⟩) (by assumption) ?_
      rotate_left 1
      · (intro W hSW; (try dsimp only at hSW); first | (go_simp; done) | (go_simp; with_reducible rfl))
      try simp only [Act.put, List.setIfInBounds_toArray, List.set_cons_zero, List.set_cons_succ]
      refine wpAnyH_take (i := 10) (oi := { dst := some 47, op := Op.extract (Operand.tmp 37) 1, type := 33, pos := "law.go:162", after := #[{ on := 8, ground := Ground.data }, { on := 12, ground := Ground.gcOnly Departure.lateStores }], guard := none }) (v := ?_) rfl (by kernel_rfl) (by kernel_rfl) (by kernel_rfl) (fun _ _ _ h => h) (Or.inl ⟨by rfl, ?_⟩) (by assumption) ?_
      rotate_left 1
      · (intro W hSW; (try dsimp only at hSW); first | (go_simp; done) | (go_simp; with_reducible rfl))
      try simp only [Act.put, List.setIfInBounds_toArray, List.set_cons_zero, List.set_cons_succ]
      refine wpAnyH_ready (rs := [12]) (by kernel_rfl) (by simp) ?_
      refine (AllReadyH.cons (o := { dst := none, op := Op.store 27 (Operand.tmp 10) (Operand.tmp 46), type := 0, pos := "law.go:162", after := #[{ on := 11, ground := Ground.data }, { on := 9, ground := Ground.data }, { on := 7, ground := Ground.chain }, { on := 0, ground := Ground.phase }, { on := 1, ground := Ground.phase }, { on := 2, ground := Ground.phase }, { on := 3, ground := Ground.phase }, { on := 4, ground := Ground.phase }, { on := 5, ground := Ground.phase }, { on := 6, ground := Ground.phase }, { on := 7, ground := Ground.phase }, { on := 8, ground := Ground.phase }, { on := 9, ground := Ground.phase }, { on := 10, ground := Ground.textOnly Departure.lateStores }, { on := 11, ground := Ground.phase }], guard := none }) rfl (fun K hK => ?_) AllReadyH.nil)
      rw [if_pos (by rfl)]
      have hzz := hz
      obtain ⟨⟨x0, x1⟩, xf⟩ := hzz
      have xf0 := xf 0
      have xf1 := xf 1
      clear xf
      go_simp
      clear x0 x1 xf0 xf1
      have hst := two_set hz (.int .i64 2) (.slice xr5 lL7 yr5)
      have hgaS := grown_own hgr7 hst.2 (fun k hk => by cases hk; exact hgeA)
      have hrS := (hrr5.off hst.2 (fun x e => by cases e; exact .inl hpLo)).here
      replace hz := hst.1
      clear hst
      obtain ⟨WS, hWS⟩ : ∃ z, (World.setCell (World.setCell wc7 ⟨pA, 0, none⟩ (.int .i64 2)) ⟨pA, 1, none⟩ (.slice xr5 lL7 yr5)) = z := ⟨_, rfl⟩
      rw [hWS] at hgaS hz hrS ⊢
      clear hWS
      refine hK.out _ _ (HS.out _ hgaS) (fun hHeld => ?_)
      clear hK K
      try simp only [Act.put, List.setIfInBounds_toArray, List.set_cons_zero, List.set_cons_succ]
      refine wpAnyH_take (i := 13) (oi := { dst := some 11, op := Op.assign (Operand.tmp 47), type := 33, pos := "law.go:162", after := #[{ on := 10, ground := Ground.data }, { on := 12, ground := Ground.chain }, { on := 0, ground := Ground.phase }, { on := 1, ground := Ground.phase }, { on := 2, ground := Ground.phase }, { on := 3, ground := Ground.phase }, { on := 4, ground := Ground.phase }, { on := 5, ground := Ground.phase }, { on := 6, ground := Ground.phase }, { on := 7, ground := Ground.phase }, { on := 8, ground := Ground.phase }, { on := 9, ground := Ground.phase }, { on := 10, ground := Ground.phase }, { on := 11, ground := Ground.phase }, { on := 12, ground := Ground.phase }], guard := none }) (v := ?_) rfl (by kernel_rfl) (by kernel_rfl) (by kernel_rfl) (fun _ _ _ h => h) (Or.inl ⟨by rfl, ?_⟩) (by assumption) ?_
      rotate_left 1
      · (intro W hSW; (try dsimp only at hSW); first | (go_simp; done) | (go_simp; with_reducible rfl))
      try simp only [Act.put, List.setIfInBounds_toArray, List.set_cons_zero, List.set_cons_succ]
      refine wpAnyH_done (by kernel_rfl) ?_ _
      have hEND := hgaS
      clear hHeld
      go_wp2_with fail
      go_meet
      exact ⟨pA, xr5, yr5, rfl, rfl, hz.1, hrS, hEND⟩
  case rest =>
    obtain ⟨bB10, xb10x, yb10x, rfl, rfl, hbx, hr, g⟩ := hcut
    obtain ⟨V10, rfl⟩ : ∃ z, z = wc := ⟨_, rfl⟩
    replace Ha := Lib.hid (Ha.out.grown g)
    replace Hb := Lib.hid (Hb.out.grown g)
    replace Hr1 := Lib.hid (Hr1.out.grown g)
    replace Hr2 := Lib.hid (Hr2.out.grown g)
    replace HB5 := Lib.hid (And.intro (World.grownBy.cell g HB5.out.1 (by simp)) (World.grownBy.cell g HB5.out.2 (by simp)))
    replace HB6 := Lib.hid (And.intro (World.grownBy.cell g HB6.out.1 (by simp)) (World.grownBy.cell g HB6.out.2 (by simp)))
    replace HB7 := Lib.hid (And.intro (World.grownBy.cell g HB7.out.1 (by simp)) (World.grownBy.cell g HB7.out.2 (by simp)))
    replace HB8 := Lib.hid (And.intro (World.grownBy.cell g HB8.out.1 (by simp)) (World.grownBy.cell g HB8.out.2 (by simp)))
    replace HG := Lib.hid (World.grownBy.trans HG.out g)
    clear g
    have Hb10x := Lib.hid hr
    have HB10 := Lib.hid hbx
    clear hr hbx
    have qB50 := HB5.out.1
    have qB51 := HB5.out.2
    have qB60 := HB6.out.1
    have qB61 := HB6.out.2
    have qB70 := HB7.out.1
    have qB71 := HB7.out.2
    have qB80 := HB8.out.1
    have qB81 := HB8.out.2
    have qB100 := HB10.out.1
    have qB101 := HB10.out.2
    go_upto_region 8 with fail
    clear qB50 qB51 qB60 qB61 qB70 qB71 qB80 qB81 qB100 qB101
    have qB50 := HB5.out.1
    have qB51 := HB5.out.2
    have qB60 := HB6.out.1
    have qB61 := HB6.out.2
    have qB70 := HB7.out.1
    have qB71 := HB7.out.2
    have qB80 := HB8.out.1
    have qB81 := HB8.out.2
    have qB100 := HB10.out.1
    have qB101 := HB10.out.2
    go_wp2_with fail
    clear qB50 qB51 qB60 qB61 qB70 qB71 qB80 qB81 qB100 qB101
    refine (joinV (k := 2) (j := 1) 1 (by omega) vL1.out vL3.out hn1 hn5 (by omega) (by omega) (by omega) (by omega) (by omega) (by omega) (by rw [← EL1.out, ← EL3.out]; exact EL8.out) ZL1.out ZL3.out ZL8.out _ _ _ _ _ Ha.out Hr1.out).mono ?_
    rintro e V11 ⟨xr6, yr6, rfl, hr, g⟩
    replace Ha := Lib.hid (Ha.out.grown g)
    replace Hb := Lib.hid (Hb.out.grown g)
    replace Hr1 := Lib.hid (Hr1.out.grown g)
    replace Hr2 := Lib.hid (Hr2.out.grown g)
    replace Hb10x := Lib.hid (Hb10x.out.grown g)
    replace HB5 := Lib.hid (And.intro (World.grownBy.cell g HB5.out.1 (by simp)) (World.grownBy.cell g HB5.out.2 (by simp)))
    replace HB6 := Lib.hid (And.intro (World.grownBy.cell g HB6.out.1 (by simp)) (World.grownBy.cell g HB6.out.2 (by simp)))
    replace HB7 := Lib.hid (And.intro (World.grownBy.cell g HB7.out.1 (by simp)) (World.grownBy.cell g HB7.out.2 (by simp)))
    replace HB8 := Lib.hid (And.intro (World.grownBy.cell g HB8.out.1 (by simp)) (World.grownBy.cell g HB8.out.2 (by simp)))
    replace HB10 := Lib.hid (And.intro (World.grownBy.cell g HB10.out.1 (by simp)) (World.grownBy.cell g HB10.out.2 (by simp)))
    replace HG := Lib.hid (World.grownBy.trans HG.out g)
    clear g
    have Hr6 := Lib.hid hr
    clear hr
    have qB50 := HB5.out.1
    have qB51 := HB5.out.2
    have qB60 := HB6.out.1
    have qB61 := HB6.out.2
    have qB70 := HB7.out.1
    have qB71 := HB7.out.2
    have qB80 := HB8.out.1
    have qB81 := HB8.out.2
    have qB100 := HB10.out.1
    have qB101 := HB10.out.2
    go_upto_region 9 with fail
    clear qB50 qB51 qB60 qB61 qB70 qB71 qB80 qB81 qB100 qB101
    have hbx := one_cells V11 (.int .i64 1) (.slice xr6 lL8 yr6) 27
    have g := World.grownBy_alloc V11 (.cells #[.int .i64 1, .slice xr6 lL8 yr6] 27) none
    obtain ⟨V12, hV12⟩ : ∃ z, World.alloc V11 (.cells #[.int .i64 1, .slice xr6 lL8 yr6] 27) = z := ⟨_, rfl⟩
    rw [hV12] at g hbx ⊢
    clear hV12
    obtain ⟨bB12, hb⟩ : ∃ b, V11.heap.size = b := ⟨_, rfl⟩
    rw [hb] at hbx ⊢
    clear hb
    replace Ha := Lib.hid (Ha.out.grown g)
    replace Hb := Lib.hid (Hb.out.grown g)
    replace Hr1 := Lib.hid (Hr1.out.grown g)
    replace Hr2 := Lib.hid (Hr2.out.grown g)
    replace Hb10x := Lib.hid (Hb10x.out.grown g)
    replace Hr6 := Lib.hid (Hr6.out.grown g)
    replace HB5 := Lib.hid (And.intro (World.grownBy.cell g HB5.out.1 (by simp)) (World.grownBy.cell g HB5.out.2 (by simp)))
    replace HB6 := Lib.hid (And.intro (World.grownBy.cell g HB6.out.1 (by simp)) (World.grownBy.cell g HB6.out.2 (by simp)))
    replace HB7 := Lib.hid (And.intro (World.grownBy.cell g HB7.out.1 (by simp)) (World.grownBy.cell g HB7.out.2 (by simp)))
    replace HB8 := Lib.hid (And.intro (World.grownBy.cell g HB8.out.1 (by simp)) (World.grownBy.cell g HB8.out.2 (by simp)))
    replace HB10 := Lib.hid (And.intro (World.grownBy.cell g HB10.out.1 (by simp)) (World.grownBy.cell g HB10.out.2 (by simp)))
    replace HG := Lib.hid (World.grownBy.trans HG.out g)
    clear g
    have HB12 := Lib.hid (And.intro hbx.2.1 hbx.2.2.1)
    clear hbx
    go_cut [14, 15] (fun s0 s1 wx => ∃ p x y, s0 = .pointer (some ⟨p, 0, none⟩) ∧ s1 = .int .i64 0 ∧ (wx.cell? ⟨p, 0, none⟩ = some (.int .i64 1) ∧ wx.cell? ⟨p, 1, none⟩ = some (.slice x lL9 y)) ∧ IntsW wx x y L9 ∧ V12.grownBy wx none)
    case first =>
      have HS := Lib.hid (fun (Wh : World) (hWh : V12.grownBy Wh none) => (⟨hWh, hWh.cell HB5.out.1 (by simp), hWh.cell HB5.out.2 (by simp), hWh.cell HB6.out.1 (by simp), hWh.cell HB6.out.2 (by simp), hWh.cell HB7.out.1 (by simp), hWh.cell HB7.out.2 (by simp), hWh.cell HB8.out.1 (by simp), hWh.cell HB8.out.2 (by simp), hWh.cell HB10.out.1 (by simp), hWh.cell HB10.out.2 (by simp), hWh.cell HB12.out.1 (by simp), hWh.cell HB12.out.2 (by simp)⟩ : (fun Wh : World => V12.grownBy Wh none ∧ Wh.cell? ⟨bB5, 0, none⟩ = some (.int .i64 2) ∧ Wh.cell? ⟨bB5, 1, none⟩ = some (.slice xa lL1 ya) ∧ Wh.cell? ⟨bB6, 0, none⟩ = some (.int .i64 2) ∧ Wh.cell? ⟨bB6, 1, none⟩ = some (.slice xb lL2 yb) ∧ Wh.cell? ⟨bB7, 0, none⟩ = some (.int .i64 1) ∧ Wh.cell? ⟨bB7, 1, none⟩ = some (.slice xr1 lL3 yr1) ∧ Wh.cell? ⟨bB8, 0, none⟩ = some (.int .i64 2) ∧ Wh.cell? ⟨bB8, 1, none⟩ = some (.slice xr2 lL4 yr2) ∧ Wh.cell? ⟨bB10, 0, none⟩ = some (.int .i64 2) ∧ Wh.cell? ⟨bB10, 1, none⟩ = some (.slice xb10x lL7 yb10x) ∧ Wh.cell? ⟨bB12, 0, none⟩ = some (.int .i64 1) ∧ Wh.cell? ⟨bB12, 1, none⟩ = some (.slice xr6 lL8 yr6)) Wh))
      have hdr : V12.grownBy V12.drew none := ⟨rfl, rfl, rfl, Nat.le_refl _, fun _ _ _ => rfl⟩
      refine wp_region_held_drew (S := (fun Wh : World => V12.grownBy Wh none ∧ Wh.cell? ⟨bB5, 0, none⟩ = some (.int .i64 2) ∧ Wh.cell? ⟨bB5, 1, none⟩ = some (.slice xa lL1 ya) ∧ Wh.cell? ⟨bB6, 0, none⟩ = some (.int .i64 2) ∧ Wh.cell? ⟨bB6, 1, none⟩ = some (.slice xb lL2 yb) ∧ Wh.cell? ⟨bB7, 0, none⟩ = some (.int .i64 1) ∧ Wh.cell? ⟨bB7, 1, none⟩ = some (.slice xr1 lL3 yr1) ∧ Wh.cell? ⟨bB8, 0, none⟩ = some (.int .i64 2) ∧ Wh.cell? ⟨bB8, 1, none⟩ = some (.slice xr2 lL4 yr2) ∧ Wh.cell? ⟨bB10, 0, none⟩ = some (.int .i64 2) ∧ Wh.cell? ⟨bB10, 1, none⟩ = some (.slice xb10x lL7 yb10x) ∧ Wh.cell? ⟨bB12, 0, none⟩ = some (.int .i64 1) ∧ Wh.cell? ⟨bB12, 1, none⟩ = some (.slice xr6 lL8 yr6))) (by kernel_rfl) (HS.out _ hdr) (fun hHeld => ?_)
      refine wpAnyH_take (i := 0) (oi := { dst := some 56, op := Op.move (Operand.tmp 4), type := 3, pos := "law.go:164", after := #[], guard := none }) (v := ?_) rfl (by kernel_rfl) (by kernel_rfl) (by kernel_rfl) (fun _ _ _ h => h) (Or.inl ⟨by rfl, ?_⟩) (by assumption) ?_
      rotate_left 1
      · (intro W hSW; (try dsimp only at hSW); first | (go_simp; done) | (go_simp; with_reducible rfl))
      try simp only [Act.put, List.setIfInBounds_toArray, List.set_cons_zero, List.set_cons_succ]
      refine wpAnyH_take (i := 1) (oi := { dst := some 57, op := Op.load 27 (Operand.tmp 7), type := 27, pos := "law.go:164", after := #[], guard := none }) (v := ?_) rfl (by kernel_rfl) (by kernel_rfl) (by kernel_rfl) (fun _ _ _ h => h) (Or.inl ⟨by rfl, ?_⟩) (by assumption) ?_
      rotate_left 1
      · (intro W hSW; (try dsimp only at hSW); first | (go_simp; done) | (go_simp; with_reducible rfl))
      try simp only [Act.put, List.setIfInBounds_toArray, List.set_cons_zero, List.set_cons_succ]
      refine wpAnyH_take (i := 2) (oi := { dst := some 58, op := Op.move (Operand.tmp 4), type := 3, pos := "law.go:164", after := #[], guard := none }) (v := ?_) rfl (by kernel_rfl) (by kernel_rfl) (by kernel_rfl) (fun _ _ _ h => h) (Or.inl ⟨by rfl, ?_⟩) (by assumption) ?_
      rotate_left 1
      · (intro W hSW; (try dsimp only at hSW); first | (go_simp; done) | (go_simp; with_reducible rfl))
      try simp only [Act.put, List.setIfInBounds_toArray, List.set_cons_zero, List.set_cons_succ]
      refine wpAnyH_take (i := 3) (oi := { dst := some 59, op := Op.load 27 (Operand.tmp 5), type := 27, pos := "law.go:164", after := #[], guard := none }) (v := ?_) rfl (by kernel_rfl) (by kernel_rfl) (by kernel_rfl) (fun _ _ _ h => h) (Or.inl ⟨by rfl, ?_⟩) (by assumption) ?_
      rotate_left 1
      · (intro W hSW; (try dsimp only at hSW); first | (go_simp; done) | (go_simp; with_reducible rfl))
      try simp only [Act.put, List.setIfInBounds_toArray, List.set_cons_zero, List.set_cons_succ]
      refine wpAnyH_ready (rs := [4, 9]) (by kernel_rfl) (by simp) ?_
      refine (AllReadyH.cons (o := { dst := some 60, op := Op.call { callee := Callee.value (Operand.func 21), args := #[Operand.tmp 58, Operand.tmp 59], argTypes := #[3, 27] }, type := 27, pos := "law.go:164", after := #[{ on := 2, ground := Ground.data }, { on := 3, ground := Ground.data }], guard := none }) rfl (fun K hK => ?_) (AllReadyH.cons (o := { dst := some 14, op := Op.alloc 27, type := 0, pos := "law.go:164", after := #[], guard := none }) rfl (fun K hK => ?_) AllReadyH.nil))
      · rw [if_pos (by rfl)]
        go_simp
        go_at_call 21
        refine (turnV vL1.out hn1 hn5 (by rw [← EL1.out]; exact EL6.out) ZL1.out ZL6.out _ _ _ (Ha.out.grown hdr)).mono ?_
        rintro e wc4 ⟨xr7, yr7, rfl, hrr7, gc4⟩
        have hgr4 := World.grownBy.trans hdr gc4
        go_wp2_with fail
        refine hK.out _ _ (HS.out _ hgr4) (fun hHeld => ?_)
        clear hK K
        try simp only [Act.put, List.setIfInBounds_toArray, List.set_cons_zero, List.set_cons_succ]
        refine wpAnyH_ready (rs := [5, 9]) (by kernel_rfl) (by simp) ?_
        refine (AllReadyH.cons (o := { dst := some 61, op := Op.call { callee := Callee.value (Operand.func 15), args := #[Operand.tmp 56, Operand.tmp 57, Operand.tmp 60], argTypes := #[3, 27, 27] }, type := 34, pos := "law.go:164", after := #[{ on := 0, ground := Ground.data }, { on := 1, ground := Ground.data }, { on := 4, ground := Ground.data }, { on := 4, ground := Ground.chain }], guard := none }) rfl (fun K hK => ?_) (AllReadyH.cons (o := { dst := some 14, op := Op.alloc 27, type := 0, pos := "law.go:164", after := #[], guard := none }) rfl (fun K hK => ?_) AllReadyH.nil))
        · rw [if_pos (by rfl)]
          go_simp
          go_at_call 15
          refine (joinS (k := 1) (j := 2) 1 (by omega) vL3.out vL6.out hn1 hn5 (by omega) (by omega) (by omega) (by omega) (by omega) (by omega) (by rw [← EL3.out, ← EL6.out]; exact EL9.out) ZL3.out ZL6.out ZL9.out _ _ _ _ _ (Hr1.out.grown hgr4) hrr7).mono ?_
          rintro e wc5 ⟨xr8, yr8, rfl, hrr8, gc5⟩
          have hgr5 := World.grownBy.trans hgr4 gc5
          go_wp2_with fail
          refine hK.out _ _ (HS.out _ hgr5) (fun hHeld => ?_)
          clear hK K
          try simp only [Act.put, List.setIfInBounds_toArray, List.set_cons_zero, List.set_cons_succ]
          refine wpAnyH_take (i := 6) (oi := { dst := some 55, op := Op.move (Operand.tmp 61), type := 34, pos := "law.go:164", after := #[{ on := 5, ground := Ground.data }], guard := none }) (v := ?_) rfl (by kernel_rfl) (by kernel_rfl) (by kernel_rfl) (fun _ _ _ h => h) (Or.inl ⟨by rfl, ?_⟩) (by assumption) ?_
          rotate_left 1
          · (intro W hSW; (try dsimp only at hSW); first | (go_simp; done) | (go_simp; with_reducible rfl))
          try simp only [Act.put, List.setIfInBounds_toArray, List.set_cons_zero, List.set_cons_succ]
          refine wpAnyH_take (i := 7) (oi := { dst := some 62, op := Op.extract (Operand.tmp 55) 0, type := 27, pos := "law.go:164", after := #[{ on := 6, ground := Ground.data }], guard := none }) (v := ?_) rfl (by kernel_rfl) (by kernel_rfl) (by kernel_rfl) (fun _ _ _ h => h) (Or.inl ⟨by rfl, ?_⟩) (by assumption) ?_
          rotate_left 1
          · (intro W hSW; (try dsimp only at hSW); first | (go_simp; done) | (go_simp; with_reducible rfl))
          try simp only [Act.put, List.setIfInBounds_toArray, List.set_cons_zero, List.set_cons_succ]
          refine wpAnyH_take (i := 8) (oi := { dst := some 63, op := Op.extract (Operand.tmp 55) 1, type := 33, pos := "law.go:164", after := #[{ on := 6, ground := Ground.data }, { on := 10, ground := Ground.gcOnly Departure.lateStores }], guard := none }) (v := ?_) rfl (by kernel_rfl) (by kernel_rfl) (by kernel_rfl) (fun _ _ _ h => h) (Or.inl ⟨by rfl, ?_⟩) (by assumption) ?_
          rotate_left 1
          · (intro W hSW; (try dsimp only at hSW); first | (go_simp; done) | (go_simp; with_reducible rfl))
          try simp only [Act.put, List.setIfInBounds_toArray, List.set_cons_zero, List.set_cons_succ]
          refine wpAnyH_ready (rs := [9]) (by kernel_rfl) (by simp) ?_
          refine (AllReadyH.cons (o := { dst := some 14, op := Op.alloc 27, type := 0, pos := "law.go:164", after := #[], guard := none }) rfl (fun K hK => ?_) AllReadyH.nil)
          rw [if_pos (by rfl)]
          go_simp
          have hgaA : V12.grownBy (World.alloc wc5 (.cells #[.int .i64 0, .slice none 0 0] 27)) none := World.grownBy.trans hgr5 (World.grownBy_alloc wc5 (.cells #[.int .i64 0, .slice none 0 0] 27) none)
          have halA : wc5.grownBy (World.alloc wc5 (.cells #[.int .i64 0, .slice none 0 0] 27)) none := World.grownBy_alloc wc5 (.cells #[.int .i64 0, .slice none 0 0] 27) none
          have hz := Two.new wc5 (.int .i64 0) (.slice none 0 0) 27
          have hgeq : V12.heap.size ≤ wc5.heap.size := World.grownBy.size hgr5
          have hgeA : ∀ p, wc5.heap.size = p → V12.heap.size ≤ p := fun p e => by rw [← e]; exact hgeq
          clear hgeq
          obtain ⟨WA, hWA⟩ : ∃ z, World.alloc wc5 (.cells #[.int .i64 0, .slice none 0 0] 27) = z := ⟨_, rfl⟩
          rw [hWA] at hgaA halA hz ⊢
          clear hWA
          obtain ⟨pA, hpA⟩ : ∃ p, wc5.heap.size = p := ⟨_, rfl⟩
          replace hgeA := hgeA pA hpA
          rw [hpA] at hz ⊢
          have hpHi := Nat.le_of_eq hpA
          clear hpA
          refine hK.out _ _ (HS.out _ hgaA) (fun hHeld => ?_)
          clear hK K
          try simp only [Act.put, List.setIfInBounds_toArray, List.set_cons_zero, List.set_cons_succ]
          refine wpAnyH_ready (rs := [10]) (by kernel_rfl) (by simp) ?_
          refine (AllReadyH.cons (o := { dst := none, op := Op.store 27 (Operand.tmp 14) (Operand.tmp 62), type := 0, pos := "law.go:164", after := #[{ on := 9, ground := Ground.data }, { on := 7, ground := Ground.data }, { on := 5, ground := Ground.chain }, { on := 0, ground := Ground.phase }, { on := 1, ground := Ground.phase }, { on := 2, ground := Ground.phase }, { on := 3, ground := Ground.phase }, { on := 4, ground := Ground.phase }, { on := 5, ground := Ground.phase }, { on := 6, ground := Ground.phase }, { on := 7, ground := Ground.phase }, { on := 8, ground := Ground.textOnly Departure.lateStores }, { on := 9, ground := Ground.phase }], guard := none }) rfl (fun K hK => ?_) AllReadyH.nil)
          rw [if_pos (by rfl)]
          have hzz := hz
          obtain ⟨⟨x0, x1⟩, xf⟩ := hzz
          have xf0 := xf 0
          have xf1 := xf 1
          clear xf
          go_simp
          clear x0 x1 xf0 xf1
          have hst := two_set hz (.int .i64 1) (.slice xr8 lL9 yr8)
          have hgaS := grown_own hgaA hst.2 (fun k hk => by cases hk; exact hgeA)
          have hrS := ((hrr8.grown halA).off hst.2 (fun x e => by cases e; exact .inr hpHi)).here
          replace hz := hst.1
          clear hst
          obtain ⟨WS, hWS⟩ : ∃ z, (World.setCell (World.setCell WA ⟨pA, 0, none⟩ (.int .i64 1)) ⟨pA, 1, none⟩ (.slice xr8 lL9 yr8)) = z := ⟨_, rfl⟩
          rw [hWS] at hgaS hz hrS ⊢
          clear hWS
          refine hK.out _ _ (HS.out _ hgaS) (fun hHeld => ?_)
          clear hK K
          try simp only [Act.put, List.setIfInBounds_toArray, List.set_cons_zero, List.set_cons_succ]
          refine wpAnyH_take (i := 11) (oi := { dst := some 15, op := Op.assign (Operand.tmp 63), type := 33, pos := "law.go:164", after := #[{ on := 8, ground := Ground.data }, { on := 10, ground := Ground.chain }, { on := 0, ground := Ground.phase }, { on := 1, ground := Ground.phase }, { on := 2, ground := Ground.phase }, { on := 3, ground := Ground.phase }, { on := 4, ground := Ground.phase }, { on := 5, ground := Ground.phase }, { on := 6, ground := Ground.phase }, { on := 7, ground := Ground.phase }, { on := 8, ground := Ground.phase }, { on := 9, ground := Ground.phase }, { on := 10, ground := Ground.phase }], guard := none }) (v := ?_) rfl (by kernel_rfl) (by kernel_rfl) (by kernel_rfl) (fun _ _ _ h => h) (Or.inl ⟨by rfl, ?_⟩) (by assumption) ?_
          rotate_left 1
          · (intro W hSW; (try dsimp only at hSW); first | (go_simp; done) | (go_simp; with_reducible rfl))
          try simp only [Act.put, List.setIfInBounds_toArray, List.set_cons_zero, List.set_cons_succ]
          refine wpAnyH_done (by kernel_rfl) ?_ _
          have hEND := hgaS
          clear hHeld
          go_wp2_with fail
          go_meet
          exact ⟨pA, xr8, yr8, rfl, rfl, hz.1, hrS, hEND⟩
        · rw [if_pos (by rfl)]
          go_simp
          have hgaA : V12.grownBy (World.alloc wc4 (.cells #[.int .i64 0, .slice none 0 0] 27)) none := World.grownBy.trans hgr4 (World.grownBy_alloc wc4 (.cells #[.int .i64 0, .slice none 0 0] 27) none)
          have halA : wc4.grownBy (World.alloc wc4 (.cells #[.int .i64 0, .slice none 0 0] 27)) none := World.grownBy_alloc wc4 (.cells #[.int .i64 0, .slice none 0 0] 27) none
          have hz := Two.new wc4 (.int .i64 0) (.slice none 0 0) 27
          have hgeq : V12.heap.size ≤ wc4.heap.size := World.grownBy.size hgr4
          have hgeA : ∀ p, wc4.heap.size = p → V12.heap.size ≤ p := fun p e => by rw [← e]; exact hgeq
          clear hgeq
          obtain ⟨WA, hWA⟩ : ∃ z, World.alloc wc4 (.cells #[.int .i64 0, .slice none 0 0] 27) = z := ⟨_, rfl⟩
          rw [hWA] at hgaA halA hz ⊢
          clear hWA
          obtain ⟨pA, hpA⟩ : ∃ p, wc4.heap.size = p := ⟨_, rfl⟩
          replace hgeA := hgeA pA hpA
          rw [hpA] at hz ⊢
          clear hpA
          refine hK.out _ _ (HS.out _ hgaA) (fun hHeld => ?_)
          clear hK K
          try simp only [Act.put, List.setIfInBounds_toArray, List.set_cons_zero, List.set_cons_succ]
          refine wpAnyH_ready (rs := [5]) (by kernel_rfl) (by simp) ?_
          refine (AllReadyH.cons (o := { dst := some 61, op := Op.call { callee := Callee.value (Operand.func 15), args := #[Operand.tmp 56, Operand.tmp 57, Operand.tmp 60], argTypes := #[3, 27, 27] }, type := 34, pos := "law.go:164", after := #[{ on := 0, ground := Ground.data }, { on := 1, ground := Ground.data }, { on := 4, ground := Ground.data }, { on := 4, ground := Ground.chain }], guard := none }) rfl (fun K hK => ?_) AllReadyH.nil)
          rw [if_pos (by rfl)]
          go_simp
          go_at_call 15
          have hpLo := hz.lt
          refine (joinS (k := 1) (j := 2) 1 (by omega) vL3.out vL6.out hn1 hn5 (by omega) (by omega) (by omega) (by omega) (by omega) (by omega) (by rw [← EL3.out, ← EL6.out]; exact EL9.out) ZL3.out ZL6.out ZL9.out _ _ _ _ _ (Hr1.out.grown hgaA) (hrr7.grown halA)).mono ?_
          rintro e wc5 ⟨xr8, yr8, rfl, hrr8, gc5⟩
          have hgr5 := World.grownBy.trans hgaA gc5
          replace hz := hz.off gc5 (fun x e => by cases e)
          go_wp2_with fail
          refine hK.out _ _ (HS.out _ hgr5) (fun hHeld => ?_)
          clear hK K
          try simp only [Act.put, List.setIfInBounds_toArray, List.set_cons_zero, List.set_cons_succ]
          refine wpAnyH_take (i := 6) (oi := { dst := some 55, op := Op.move (Operand.tmp 61), type := 34, pos := "law.go:164", after := #[{ on := 5, ground := Ground.data }], guard := none }) (v := ?_) rfl (by kernel_rfl) (by kernel_rfl) (by kernel_rfl) (fun _ _ _ h => h) (Or.inl ⟨by rfl, ?_⟩) (by assumption) ?_
          rotate_left 1
          · (intro W hSW; (try dsimp only at hSW); first | (go_simp; done) | (go_simp; with_reducible rfl))
          try simp only [Act.put, List.setIfInBounds_toArray, List.set_cons_zero, List.set_cons_succ]
          refine wpAnyH_take (i := 7) (oi := { dst := some 62, op := Op.extract (Operand.tmp 55) 0, type := 27, pos := "law.go:164", after := #[{ on := 6, ground := Ground.data }], guard := none }) (v := ?_) rfl (by kernel_rfl) (by kernel_rfl) (by kernel_rfl) (fun _ _ _ h => h) (Or.inl ⟨by rfl, ?_⟩) (by assumption) ?_
          rotate_left 1
          · (intro W hSW; (try dsimp only at hSW); first | (go_simp; done) | (go_simp; with_reducible rfl))
          try simp only [Act.put, List.setIfInBounds_toArray, List.set_cons_zero, List.set_cons_succ]
          refine wpAnyH_take (i := 8) (oi := { dst := some 63, op := Op.extract (Operand.tmp 55) 1, type := 33, pos := "law.go:164", after := #[{ on := 6, ground := Ground.data }, { on := 10, ground := Ground.gcOnly Departure.lateStores }], guard := none }) (v := ?_) rfl (by kernel_rfl) (by kernel_rfl) (by kernel_rfl) (fun _ _ _ h => h) (Or.inl ⟨by rfl, ?_⟩) (by assumption) ?_
          rotate_left 1
          · (intro W hSW; (try dsimp only at hSW); first | (go_simp; done) | (go_simp; with_reducible rfl))
          try simp only [Act.put, List.setIfInBounds_toArray, List.set_cons_zero, List.set_cons_succ]
          refine wpAnyH_ready (rs := [10]) (by kernel_rfl) (by simp) ?_
          refine (AllReadyH.cons (o := { dst := none, op := Op.store 27 (Operand.tmp 14) (Operand.tmp 62), type := 0, pos := "law.go:164", after := #[{ on := 9, ground := Ground.data }, { on := 7, ground := Ground.data }, { on := 5, ground := Ground.chain }, { on := 0, ground := Ground.phase }, { on := 1, ground := Ground.phase }, { on := 2, ground := Ground.phase }, { on := 3, ground := Ground.phase }, { on := 4, ground := Ground.phase }, { on := 5, ground := Ground.phase }, { on := 6, ground := Ground.phase }, { on := 7, ground := Ground.phase }, { on := 8, ground := Ground.textOnly Departure.lateStores }, { on := 9, ground := Ground.phase }], guard := none }) rfl (fun K hK => ?_) AllReadyH.nil)
          rw [if_pos (by rfl)]
          have hzz := hz
          obtain ⟨⟨x0, x1⟩, xf⟩ := hzz
          have xf0 := xf 0
          have xf1 := xf 1
          clear xf
          go_simp
          clear x0 x1 xf0 xf1
          have hst := two_set hz (.int .i64 1) (.slice xr8 lL9 yr8)
          have hgaS := grown_own hgr5 hst.2 (fun k hk => by cases hk; exact hgeA)
          have hrS := (hrr8.off hst.2 (fun x e => by cases e; exact .inl hpLo)).here
          replace hz := hst.1
          clear hst
          obtain ⟨WS, hWS⟩ : ∃ z, (World.setCell (World.setCell wc5 ⟨pA, 0, none⟩ (.int .i64 1)) ⟨pA, 1, none⟩ (.slice xr8 lL9 yr8)) = z := ⟨_, rfl⟩
          rw [hWS] at hgaS hz hrS ⊢
          clear hWS
          refine hK.out _ _ (HS.out _ hgaS) (fun hHeld => ?_)
          clear hK K
          try simp only [Act.put, List.setIfInBounds_toArray, List.set_cons_zero, List.set_cons_succ]
          refine wpAnyH_take (i := 11) (oi := { dst := some 15, op := Op.assign (Operand.tmp 63), type := 33, pos := "law.go:164", after := #[{ on := 8, ground := Ground.data }, { on := 10, ground := Ground.chain }, { on := 0, ground := Ground.phase }, { on := 1, ground := Ground.phase }, { on := 2, ground := Ground.phase }, { on := 3, ground := Ground.phase }, { on := 4, ground := Ground.phase }, { on := 5, ground := Ground.phase }, { on := 6, ground := Ground.phase }, { on := 7, ground := Ground.phase }, { on := 8, ground := Ground.phase }, { on := 9, ground := Ground.phase }, { on := 10, ground := Ground.phase }], guard := none }) (v := ?_) rfl (by kernel_rfl) (by kernel_rfl) (by kernel_rfl) (fun _ _ _ h => h) (Or.inl ⟨by rfl, ?_⟩) (by assumption) ?_
          rotate_left 1
          · (intro W hSW; (try dsimp only at hSW); first | (go_simp; done) | (go_simp; with_reducible rfl))
          try simp only [Act.put, List.setIfInBounds_toArray, List.set_cons_zero, List.set_cons_succ]
          refine wpAnyH_done (by kernel_rfl) ?_ _
          have hEND := hgaS
          clear hHeld
          go_wp2_with fail
          go_meet
          exact ⟨pA, xr8, yr8, rfl, rfl, hz.1, hrS, hEND⟩
      · rw [if_pos (by rfl)]
        go_simp
        have hgaA : V12.grownBy ((World.alloc V12 (.cells #[.int .i64 0, .slice none 0 0] 27)).drew) none := World.grownBy.trans (World.grownBy_alloc V12 (.cells #[.int .i64 0, .slice none 0 0] 27) none) (⟨rfl, rfl, rfl, Nat.le_refl _, fun _ _ _ => rfl⟩ : (World.alloc V12 (.cells #[.int .i64 0, .slice none 0 0] 27)).grownBy (World.alloc V12 (.cells #[.int .i64 0, .slice none 0 0] 27)).drew none)
        have halA : V12.drew.grownBy ((World.alloc V12 (.cells #[.int .i64 0, .slice none 0 0] 27)).drew) none := World.grownBy_alloc V12.drew (.cells #[.int .i64 0, .slice none 0 0] 27) none
        have hz := (Two.new V12 (.int .i64 0) (.slice none 0 0) 27).off (⟨rfl, rfl, rfl, Nat.le_refl _, fun _ _ _ => rfl⟩ : (World.alloc V12 (.cells #[.int .i64 0, .slice none 0 0] 27)).grownBy (World.alloc V12 (.cells #[.int .i64 0, .slice none 0 0] 27)).drew none) (fun x e => by cases e)
        have hgeq : V12.heap.size ≤ V12.heap.size := Nat.le_refl _
        have hgeA : ∀ p, V12.heap.size = p → V12.heap.size ≤ p := fun p e => by rw [← e]; exact hgeq
        clear hgeq
        obtain ⟨WA, hWA⟩ : ∃ z, (World.alloc V12 (.cells #[.int .i64 0, .slice none 0 0] 27)).drew = z := ⟨_, rfl⟩
        rw [hWA] at hgaA halA hz ⊢
        clear hWA
        obtain ⟨pA, hpA⟩ : ∃ p, V12.heap.size = p := ⟨_, rfl⟩
        replace hgeA := hgeA pA hpA
        rw [hpA] at hz ⊢
        clear hpA
        refine hK.out _ _ (HS.out _ hgaA) (fun hHeld => ?_)
        clear hK K
        try simp only [Act.put, List.setIfInBounds_toArray, List.set_cons_zero, List.set_cons_succ]
        refine wpAnyH_ready (rs := [4]) (by kernel_rfl) (by simp) ?_
        refine (AllReadyH.cons (o := { dst := some 60, op := Op.call { callee := Callee.value (Operand.func 21), args := #[Operand.tmp 58, Operand.tmp 59], argTypes := #[3, 27] }, type := 27, pos := "law.go:164", after := #[{ on := 2, ground := Ground.data }, { on := 3, ground := Ground.data }], guard := none }) rfl (fun K hK => ?_) AllReadyH.nil)
        rw [if_pos (by rfl)]
        go_simp
        go_at_call 21
        refine (turnV vL1.out hn1 hn5 (by rw [← EL1.out]; exact EL6.out) ZL1.out ZL6.out _ _ _ (Ha.out.grown hgaA)).mono ?_
        rintro e wc4 ⟨xr7, yr7, rfl, hrr7, gc4⟩
        have hgr4 := World.grownBy.trans hgaA gc4
        replace hz := hz.off gc4 (fun x e => by cases e)
        go_wp2_with fail
        refine hK.out _ _ (HS.out _ hgr4) (fun hHeld => ?_)
        clear hK K
        try simp only [Act.put, List.setIfInBounds_toArray, List.set_cons_zero, List.set_cons_succ]
        refine wpAnyH_ready (rs := [5]) (by kernel_rfl) (by simp) ?_
        refine (AllReadyH.cons (o := { dst := some 61, op := Op.call { callee := Callee.value (Operand.func 15), args := #[Operand.tmp 56, Operand.tmp 57, Operand.tmp 60], argTypes := #[3, 27, 27] }, type := 34, pos := "law.go:164", after := #[{ on := 0, ground := Ground.data }, { on := 1, ground := Ground.data }, { on := 4, ground := Ground.data }, { on := 4, ground := Ground.chain }], guard := none }) rfl (fun K hK => ?_) AllReadyH.nil)
        rw [if_pos (by rfl)]
        go_simp
        go_at_call 15
        have hpLo := hz.lt
        refine (joinS (k := 1) (j := 2) 1 (by omega) vL3.out vL6.out hn1 hn5 (by omega) (by omega) (by omega) (by omega) (by omega) (by omega) (by rw [← EL3.out, ← EL6.out]; exact EL9.out) ZL3.out ZL6.out ZL9.out _ _ _ _ _ (Hr1.out.grown hgr4) hrr7).mono ?_
        rintro e wc5 ⟨xr8, yr8, rfl, hrr8, gc5⟩
        have hgr5 := World.grownBy.trans hgr4 gc5
        replace hz := hz.off gc5 (fun x e => by cases e)
        go_wp2_with fail
        refine hK.out _ _ (HS.out _ hgr5) (fun hHeld => ?_)
        clear hK K
        try simp only [Act.put, List.setIfInBounds_toArray, List.set_cons_zero, List.set_cons_succ]
        refine wpAnyH_take (i := 6) (oi := { dst := some 55, op := Op.move (Operand.tmp 61), type := 34, pos := "law.go:164", after := #[{ on := 5, ground := Ground.data }], guard := none }) (v := ?_) rfl (by kernel_rfl) (by kernel_rfl) (by kernel_rfl) (fun _ _ _ h => h) (Or.inl ⟨by rfl, ?_⟩) (by assumption) ?_
        rotate_left 1
        · (intro W hSW; (try dsimp only at hSW); first | (go_simp; done) | (go_simp; with_reducible rfl))
        try simp only [Act.put, List.setIfInBounds_toArray, List.set_cons_zero, List.set_cons_succ]
        refine wpAnyH_take (i := 7) (oi := { dst := some 62, op := Op.extract (Operand.tmp 55) 0, type := 27, pos := "law.go:164", after := #[{ on := 6, ground := Ground.data }], guard := none }) (v := ?_) rfl (by kernel_rfl) (by kernel_rfl) (by kernel_rfl) (fun _ _ _ h => h) (Or.inl ⟨by rfl, ?_⟩) (by assumption) ?_
        rotate_left 1
        · (intro W hSW; (try dsimp only at hSW); first | (go_simp; done) | (go_simp; with_reducible rfl))
        try simp only [Act.put, List.setIfInBounds_toArray, List.set_cons_zero, List.set_cons_succ]
        refine wpAnyH_take (i := 8) (oi := { dst := some 63, op := Op.extract (Operand.tmp 55) 1, type := 33, pos := "law.go:164", after := #[{ on := 6, ground := Ground.data }, { on := 10, ground := Ground.gcOnly Departure.lateStores }], guard := none }) (v := ?_) rfl (by kernel_rfl) (by kernel_rfl) (by kernel_rfl) (fun _ _ _ h => h) (Or.inl ⟨by rfl, ?_⟩) (by assumption) ?_
        rotate_left 1
        · (intro W hSW; (try dsimp only at hSW); first | (go_simp; done) | (go_simp; with_reducible rfl))
        try simp only [Act.put, List.setIfInBounds_toArray, List.set_cons_zero, List.set_cons_succ]
        refine wpAnyH_ready (rs := [10]) (by kernel_rfl) (by simp) ?_
        refine (AllReadyH.cons (o := { dst := none, op := Op.store 27 (Operand.tmp 14) (Operand.tmp 62), type := 0, pos := "law.go:164", after := #[{ on := 9, ground := Ground.data }, { on := 7, ground := Ground.data }, { on := 5, ground := Ground.chain }, { on := 0, ground := Ground.phase }, { on := 1, ground := Ground.phase }, { on := 2, ground := Ground.phase }, { on := 3, ground := Ground.phase }, { on := 4, ground := Ground.phase }, { on := 5, ground := Ground.phase }, { on := 6, ground := Ground.phase }, { on := 7, ground := Ground.phase }, { on := 8, ground := Ground.textOnly Departure.lateStores }, { on := 9, ground := Ground.phase }], guard := none }) rfl (fun K hK => ?_) AllReadyH.nil)
        rw [if_pos (by rfl)]
        have hzz := hz
        obtain ⟨⟨x0, x1⟩, xf⟩ := hzz
        have xf0 := xf 0
        have xf1 := xf 1
        clear xf
        go_simp
        clear x0 x1 xf0 xf1
        have hst := two_set hz (.int .i64 1) (.slice xr8 lL9 yr8)
        have hgaS := grown_own hgr5 hst.2 (fun k hk => by cases hk; exact hgeA)
        have hrS := (hrr8.off hst.2 (fun x e => by cases e; exact .inl hpLo)).here
        replace hz := hst.1
        clear hst
        obtain ⟨WS, hWS⟩ : ∃ z, (World.setCell (World.setCell wc5 ⟨pA, 0, none⟩ (.int .i64 1)) ⟨pA, 1, none⟩ (.slice xr8 lL9 yr8)) = z := ⟨_, rfl⟩
        rw [hWS] at hgaS hz hrS ⊢
        clear hWS
        refine hK.out _ _ (HS.out _ hgaS) (fun hHeld => ?_)
        clear hK K
        try simp only [Act.put, List.setIfInBounds_toArray, List.set_cons_zero, List.set_cons_succ]
        refine wpAnyH_take (i := 11) (oi := { dst := some 15, op := Op.assign (Operand.tmp 63), type := 33, pos := "law.go:164", after := #[{ on := 8, ground := Ground.data }, { on := 10, ground := Ground.chain }, { on := 0, ground := Ground.phase }, { on := 1, ground := Ground.phase }, { on := 2, ground := Ground.phase }, { on := 3, ground := Ground.phase }, { on := 4, ground := Ground.phase }, { on := 5, ground := Ground.phase }, { on := 6, ground := Ground.phase }, { on := 7, ground := Ground.phase }, { on := 8, ground := Ground.phase }, { on := 9, ground := Ground.phase }, { on := 10, ground := Ground.phase }], guard := none }) (v := ?_) rfl (by kernel_rfl) (by kernel_rfl) (by kernel_rfl) (fun _ _ _ h => h) (Or.inl ⟨by rfl, ?_⟩) (by assumption) ?_
        rotate_left 1
        · (intro W hSW; (try dsimp only at hSW); first | (go_simp; done) | (go_simp; with_reducible rfl))
        try simp only [Act.put, List.setIfInBounds_toArray, List.set_cons_zero, List.set_cons_succ]
        refine wpAnyH_done (by kernel_rfl) ?_ _
        have hEND := hgaS
        clear hHeld
        go_wp2_with fail
        go_meet
        exact ⟨pA, xr8, yr8, rfl, rfl, hz.1, hrS, hEND⟩
    case rest =>
      obtain ⟨bB14, xb14x, yb14x, rfl, rfl, hbx, hr, g⟩ := hcut
      obtain ⟨V13, rfl⟩ : ∃ z, z = wc := ⟨_, rfl⟩
      replace Ha := Lib.hid (Ha.out.grown g)
      replace Hb := Lib.hid (Hb.out.grown g)
      replace Hr1 := Lib.hid (Hr1.out.grown g)
      replace Hr2 := Lib.hid (Hr2.out.grown g)
      replace Hb10x := Lib.hid (Hb10x.out.grown g)
      replace Hr6 := Lib.hid (Hr6.out.grown g)
      replace HB5 := Lib.hid (And.intro (World.grownBy.cell g HB5.out.1 (by simp)) (World.grownBy.cell g HB5.out.2 (by simp)))
      replace HB6 := Lib.hid (And.intro (World.grownBy.cell g HB6.out.1 (by simp)) (World.grownBy.cell g HB6.out.2 (by simp)))
      replace HB7 := Lib.hid (And.intro (World.grownBy.cell g HB7.out.1 (by simp)) (World.grownBy.cell g HB7.out.2 (by simp)))
      replace HB8 := Lib.hid (And.intro (World.grownBy.cell g HB8.out.1 (by simp)) (World.grownBy.cell g HB8.out.2 (by simp)))
      replace HB10 := Lib.hid (And.intro (World.grownBy.cell g HB10.out.1 (by simp)) (World.grownBy.cell g HB10.out.2 (by simp)))
      replace HB12 := Lib.hid (And.intro (World.grownBy.cell g HB12.out.1 (by simp)) (World.grownBy.cell g HB12.out.2 (by simp)))
      replace HG := Lib.hid (World.grownBy.trans HG.out g)
      clear g
      have Hb14x := Lib.hid hr
      have HB14 := Lib.hid hbx
      clear hr hbx
      have qB50 := HB5.out.1
      have qB51 := HB5.out.2
      have qB60 := HB6.out.1
      have qB61 := HB6.out.2
      have qB70 := HB7.out.1
      have qB71 := HB7.out.2
      have qB80 := HB8.out.1
      have qB81 := HB8.out.2
      have qB100 := HB10.out.1
      have qB101 := HB10.out.2
      have qB120 := HB12.out.1
      have qB121 := HB12.out.2
      have qB140 := HB14.out.1
      have qB141 := HB14.out.2
      go_upto_region 12 with fail
      clear qB50 qB51 qB60 qB61 qB70 qB71 qB80 qB81 qB100 qB101 qB120 qB121 qB140 qB141
      have HS := Lib.hid (fun (Wh : World) (hWh : V13.grownBy Wh none) => (⟨hWh, hWh.cell HB5.out.1 (by simp), hWh.cell HB5.out.2 (by simp), hWh.cell HB6.out.1 (by simp), hWh.cell HB6.out.2 (by simp), hWh.cell HB7.out.1 (by simp), hWh.cell HB7.out.2 (by simp), hWh.cell HB8.out.1 (by simp), hWh.cell HB8.out.2 (by simp), hWh.cell HB10.out.1 (by simp), hWh.cell HB10.out.2 (by simp), hWh.cell HB12.out.1 (by simp), hWh.cell HB12.out.2 (by simp), hWh.cell HB14.out.1 (by simp), hWh.cell HB14.out.2 (by simp)⟩ : (fun Wh : World => V13.grownBy Wh none ∧ Wh.cell? ⟨bB5, 0, none⟩ = some (.int .i64 2) ∧ Wh.cell? ⟨bB5, 1, none⟩ = some (.slice xa lL1 ya) ∧ Wh.cell? ⟨bB6, 0, none⟩ = some (.int .i64 2) ∧ Wh.cell? ⟨bB6, 1, none⟩ = some (.slice xb lL2 yb) ∧ Wh.cell? ⟨bB7, 0, none⟩ = some (.int .i64 1) ∧ Wh.cell? ⟨bB7, 1, none⟩ = some (.slice xr1 lL3 yr1) ∧ Wh.cell? ⟨bB8, 0, none⟩ = some (.int .i64 2) ∧ Wh.cell? ⟨bB8, 1, none⟩ = some (.slice xr2 lL4 yr2) ∧ Wh.cell? ⟨bB10, 0, none⟩ = some (.int .i64 2) ∧ Wh.cell? ⟨bB10, 1, none⟩ = some (.slice xb10x lL7 yb10x) ∧ Wh.cell? ⟨bB12, 0, none⟩ = some (.int .i64 1) ∧ Wh.cell? ⟨bB12, 1, none⟩ = some (.slice xr6 lL8 yr6) ∧ Wh.cell? ⟨bB14, 0, none⟩ = some (.int .i64 1) ∧ Wh.cell? ⟨bB14, 1, none⟩ = some (.slice xb14x lL9 yb14x)) Wh))
      have hdr : V13.grownBy V13.drew none := ⟨rfl, rfl, rfl, Nat.le_refl _, fun _ _ _ => rfl⟩
      refine wp_region_held_drew (S := (fun Wh : World => V13.grownBy Wh none ∧ Wh.cell? ⟨bB5, 0, none⟩ = some (.int .i64 2) ∧ Wh.cell? ⟨bB5, 1, none⟩ = some (.slice xa lL1 ya) ∧ Wh.cell? ⟨bB6, 0, none⟩ = some (.int .i64 2) ∧ Wh.cell? ⟨bB6, 1, none⟩ = some (.slice xb lL2 yb) ∧ Wh.cell? ⟨bB7, 0, none⟩ = some (.int .i64 1) ∧ Wh.cell? ⟨bB7, 1, none⟩ = some (.slice xr1 lL3 yr1) ∧ Wh.cell? ⟨bB8, 0, none⟩ = some (.int .i64 2) ∧ Wh.cell? ⟨bB8, 1, none⟩ = some (.slice xr2 lL4 yr2) ∧ Wh.cell? ⟨bB10, 0, none⟩ = some (.int .i64 2) ∧ Wh.cell? ⟨bB10, 1, none⟩ = some (.slice xb10x lL7 yb10x) ∧ Wh.cell? ⟨bB12, 0, none⟩ = some (.int .i64 1) ∧ Wh.cell? ⟨bB12, 1, none⟩ = some (.slice xr6 lL8 yr6) ∧ Wh.cell? ⟨bB14, 0, none⟩ = some (.int .i64 1) ∧ Wh.cell? ⟨bB14, 1, none⟩ = some (.slice xb14x lL9 yb14x))) (by kernel_rfl) (HS.out _ hdr) (fun hHeld => ?_)
      refine wpAnyH_take (i := 0) (oi := { dst := some 78, op := Op.move (Operand.tmp 3), type := 4, pos := "law.go:168", after := #[], guard := none }) (v := ?_) rfl (by kernel_rfl) (by kernel_rfl) (by kernel_rfl) (fun _ _ _ h => h) (Or.inl ⟨by rfl, ?_⟩) (by assumption) ?_
      rotate_left 1
      · (intro W hSW; (try dsimp only at hSW); first | (go_simp; done) | (go_simp; with_reducible rfl))
      try simp only [Act.put, List.setIfInBounds_toArray, List.set_cons_zero, List.set_cons_succ]
      refine wpAnyH_take (i := 1) (oi := { dst := some 79, op := Op.move (Operand.tmp 78), type := 4, pos := "law.go:168", after := #[{ on := 0, ground := Ground.data }], guard := none }) (v := ?_) rfl (by kernel_rfl) (by kernel_rfl) (by kernel_rfl) (fun _ _ _ h => h) (Or.inl ⟨by rfl, ?_⟩) (by assumption) ?_
      rotate_left 1
      · (intro W hSW; (try dsimp only at hSW); first | (go_simp; done) | (go_simp; with_reducible rfl))
      try simp only [Act.put, List.setIfInBounds_toArray, List.set_cons_zero, List.set_cons_succ]
      refine wpAnyH_take (i := 2) (oi := { dst := some 80, op := Op.move (Operand.tmp 4), type := 3, pos := "law.go:168", after := #[{ on := 1, ground := Ground.guard }], guard := some (1, true) }) (v := ?_) rfl (by kernel_rfl) (by kernel_rfl) (by kernel_rfl) (fun _ _ _ h => h) (Or.inl ⟨by rfl, ?_⟩) (by assumption) ?_
      rotate_left 1
      · (intro W hSW; (try dsimp only at hSW); first | (go_simp; done) | (go_simp; with_reducible rfl))
      try simp only [Act.put, List.setIfInBounds_toArray, List.set_cons_zero, List.set_cons_succ]
      refine wpAnyH_take (i := 3) (oi := { dst := some 81, op := Op.move (Operand.tmp 4), type := 3, pos := "law.go:168", after := #[{ on := 1, ground := Ground.guard }], guard := some (1, true) }) (v := ?_) rfl (by kernel_rfl) (by kernel_rfl) (by kernel_rfl) (fun _ _ _ h => h) (Or.inl ⟨by rfl, ?_⟩) (by assumption) ?_
      rotate_left 1
      · (intro W hSW; (try dsimp only at hSW); first | (go_simp; done) | (go_simp; with_reducible rfl))
      try simp only [Act.put, List.setIfInBounds_toArray, List.set_cons_zero, List.set_cons_succ]
      refine wpAnyH_take (i := 4) (oi := { dst := some 82, op := Op.load 27 (Operand.tmp 5), type := 27, pos := "law.go:168", after := #[{ on := 1, ground := Ground.guard }], guard := some (1, true) }) (v := ?_) rfl (by kernel_rfl) (by kernel_rfl) (by kernel_rfl) (fun _ _ _ h => h) (Or.inl ⟨by rfl, ?_⟩) (by assumption) ?_
      rotate_left 1
      · (intro W hSW; (try dsimp only at hSW); first | (go_simp; done) | (go_simp; with_reducible rfl))
      try simp only [Act.put, List.setIfInBounds_toArray, List.set_cons_zero, List.set_cons_succ]
      refine wpAnyH_take (i := 7) (oi := { dst := some 85, op := Op.load 27 (Operand.tmp 5), type := 27, pos := "law.go:168", after := #[{ on := 1, ground := Ground.guard }], guard := some (1, true) }) (v := ?_) rfl (by kernel_rfl) (by kernel_rfl) (by kernel_rfl) (fun _ _ _ h => h) (Or.inl ⟨by rfl, ?_⟩) (by assumption) ?_
      rotate_left 1
      · (intro W hSW; (try dsimp only at hSW); first | (go_simp; done) | (go_simp; with_reducible rfl))
      try simp only [Act.put, List.setIfInBounds_toArray, List.set_cons_zero, List.set_cons_succ]
      refine wpAnyH_ready (rs := [5]) (by kernel_rfl) (by simp) ?_
      refine (AllReadyH.cons (o := { dst := some 83, op := Op.call { callee := Callee.value (Operand.func 21), args := #[Operand.tmp 81, Operand.tmp 82], argTypes := #[3, 27] }, type := 27, pos := "law.go:168", after := #[{ on := 3, ground := Ground.data }, { on := 4, ground := Ground.data }, { on := 1, ground := Ground.chain }, { on := 1, ground := Ground.guard }], guard := some (1, true) }) rfl (fun K hK => ?_) AllReadyH.nil)
      rw [if_pos (by rfl)]
      go_simp
      go_at_call 21
      refine (turnV vL1.out hn1 hn5 (by rw [← EL1.out]; exact EL6.out) ZL1.out ZL6.out _ _ _ (Ha.out.grown hdr)).mono ?_
      rintro e wc5 ⟨xr9, yr9, rfl, hrr9, gc5⟩
      have hgr5 := World.grownBy.trans hdr gc5
      go_wp2_with fail
      refine hK.out _ _ (HS.out _ hgr5) (fun hHeld => ?_)
      clear hK K
      try simp only [Act.put, List.setIfInBounds_toArray, List.set_cons_zero, List.set_cons_succ]
      refine wpAnyH_ready (rs := [6]) (by kernel_rfl) (by simp) ?_
      refine (AllReadyH.cons (o := { dst := some 84, op := Op.call { callee := Callee.value (Operand.func 21), args := #[Operand.tmp 80, Operand.tmp 83], argTypes := #[3, 27] }, type := 27, pos := "law.go:168", after := #[{ on := 2, ground := Ground.data }, { on := 5, ground := Ground.data }, { on := 5, ground := Ground.chain }, { on := 1, ground := Ground.guard }], guard := some (1, true) }) rfl (fun K hK => ?_) AllReadyH.nil)
      rw [if_pos (by rfl)]
      go_simp
      go_at_call 21
      refine (turnV vL6.out hn1 hn5 (by rw [← EL6.out]; exact EL10.out) ZL6.out ZL10.out _ _ _ hrr9).mono ?_
      rintro e wc6 ⟨xr10, yr10, rfl, hrr10, gc6⟩
      have hgr6 := World.grownBy.trans hgr5 gc6
      go_wp2_with fail
      refine hK.out _ _ (HS.out _ hgr6) (fun hHeld => ?_)
      clear hK K
      try simp only [Act.put, List.setIfInBounds_toArray, List.set_cons_zero, List.set_cons_succ]
      refine wpAnyH_ready (rs := [8]) (by kernel_rfl) (by simp) ?_
      refine (AllReadyH.cons (o := { dst := some 86, op := Op.call { callee := Callee.value (Operand.func 19), args := #[Operand.tmp 84, Operand.tmp 85], argTypes := #[27, 27] }, type := 4, pos := "law.go:168", after := #[{ on := 6, ground := Ground.data }, { on := 7, ground := Ground.data }, { on := 6, ground := Ground.chain }, { on := 1, ground := Ground.guard }], guard := some (1, true) }) rfl (fun K hK => ?_) AllReadyH.nil)
      rw [if_pos (by rfl)]
      go_simp
      go_at_call 19
      refine (equalV (k := 2) (Q := true) (2 : Nat) (2 : Nat) vL10.out hn5 (by omega) (eqQ _ Q11.out) ZL10.out ZL1.out _ _ _ _ _ hrr10 (Ha.out.grown hgr6)).mono ?_
      rintro e wc8 ⟨rfl, gc8⟩
      have hgr8 := World.grownBy.trans hgr6 gc8
      go_wp2_with fail
      refine hK.out _ _ (HS.out _ hgr8) (fun hHeld => ?_)
      clear hK K
      try simp only [Act.put, List.setIfInBounds_toArray, List.set_cons_zero, List.set_cons_succ]
      refine wpAnyH_take (i := 9) (oi := { dst := some 87, op := Op.pick (Operand.tmp 79) (Operand.tmp 86) (Operand.const (Value.bool false)), type := 4, pos := "law.go:168", after := #[{ on := 1, ground := Ground.data }, { on := 8, ground := Ground.data }], guard := none }) (v := ?_) rfl (by kernel_rfl) (by kernel_rfl) (by kernel_rfl) (fun _ _ _ h => h) (Or.inl ⟨by rfl, ?_⟩) (by assumption) ?_
      rotate_left 1
      · (intro W hSW; (try dsimp only at hSW); first | (go_simp; done) | (go_simp; with_reducible rfl))
      try simp only [Act.put, List.setIfInBounds_toArray, List.set_cons_zero, List.set_cons_succ]
      refine wpAnyH_take (i := 10) (oi := { dst := some 88, op := Op.move (Operand.tmp 87), type := 4, pos := "law.go:168", after := #[{ on := 9, ground := Ground.data }, { on := 8, ground := Ground.chain }], guard := none }) (v := ?_) rfl (by kernel_rfl) (by kernel_rfl) (by kernel_rfl) (fun _ _ _ h => h) (Or.inl ⟨by rfl, ?_⟩) (by assumption) ?_
      rotate_left 1
      · (intro W hSW; (try dsimp only at hSW); first | (go_simp; done) | (go_simp; with_reducible rfl))
      try simp only [Act.put, List.setIfInBounds_toArray, List.set_cons_zero, List.set_cons_succ]
      refine wpAnyH_take (i := 11) (oi := { dst := some 89, op := Op.move (Operand.tmp 4), type := 3, pos := "law.go:168", after := #[{ on := 10, ground := Ground.guard }], guard := some (10, true) }) (v := ?_) rfl (by kernel_rfl) (by kernel_rfl) (by kernel_rfl) (fun _ _ _ h => h) (Or.inl ⟨by rfl, ?_⟩) (by assumption) ?_
      rotate_left 1
      · (intro W hSW; (try dsimp only at hSW); first | (go_simp; done) | (go_simp; with_reducible rfl))
      try simp only [Act.put, List.setIfInBounds_toArray, List.set_cons_zero, List.set_cons_succ]
      refine wpAnyH_take (i := 12) (oi := { dst := some 90, op := Op.load 27 (Operand.tmp 8), type := 27, pos := "law.go:168", after := #[{ on := 10, ground := Ground.guard }], guard := some (10, true) }) (v := ?_) rfl (by kernel_rfl) (by kernel_rfl) (by kernel_rfl) (fun _ _ _ h => h) (Or.inl ⟨by rfl, ?_⟩) (by assumption) ?_
      rotate_left 1
      · (intro W hSW; (try dsimp only at hSW); first | (go_simp; done) | (go_simp; with_reducible rfl))
      try simp only [Act.put, List.setIfInBounds_toArray, List.set_cons_zero, List.set_cons_succ]
      refine wpAnyH_take (i := 14) (oi := { dst := some 92, op := Op.load 27 (Operand.tmp 10), type := 27, pos := "law.go:168", after := #[{ on := 10, ground := Ground.guard }], guard := some (10, true) }) (v := ?_) rfl (by kernel_rfl) (by kernel_rfl) (by kernel_rfl) (fun _ _ _ h => h) (Or.inl ⟨by rfl, ?_⟩) (by assumption) ?_
      rotate_left 1
      · (intro W hSW; (try dsimp only at hSW); first | (go_simp; done) | (go_simp; with_reducible rfl))
      try simp only [Act.put, List.setIfInBounds_toArray, List.set_cons_zero, List.set_cons_succ]
      refine wpAnyH_ready (rs := [13]) (by kernel_rfl) (by simp) ?_
      refine (AllReadyH.cons (o := { dst := some 91, op := Op.call { callee := Callee.value (Operand.func 21), args := #[Operand.tmp 89, Operand.tmp 90], argTypes := #[3, 27] }, type := 27, pos := "law.go:168", after := #[{ on := 11, ground := Ground.data }, { on := 12, ground := Ground.data }, { on := 10, ground := Ground.chain }, { on := 10, ground := Ground.guard }], guard := some (10, true) }) rfl (fun K hK => ?_) AllReadyH.nil)
      rw [if_pos (by rfl)]
      go_simp
      go_at_call 21
      refine (turnV vL4.out hn1 hn5 (by rw [← EL4.out]; exact EL11.out) ZL4.out ZL11.out _ _ _ (Hr2.out.grown hgr8)).mono ?_
      rintro e wc13 ⟨xr12, yr12, rfl, hrr12, gc13⟩
      have hgr13 := World.grownBy.trans hgr8 gc13
      go_wp2_with fail
      refine hK.out _ _ (HS.out _ hgr13) (fun hHeld => ?_)
      clear hK K
      try simp only [Act.put, List.setIfInBounds_toArray, List.set_cons_zero, List.set_cons_succ]
      refine wpAnyH_ready (rs := [15]) (by kernel_rfl) (by simp) ?_
      refine (AllReadyH.cons (o := { dst := some 93, op := Op.call { callee := Callee.value (Operand.func 19), args := #[Operand.tmp 91, Operand.tmp 92], argTypes := #[27, 27] }, type := 4, pos := "law.go:168", after := #[{ on := 13, ground := Ground.data }, { on := 14, ground := Ground.data }, { on := 13, ground := Ground.chain }, { on := 10, ground := Ground.guard }], guard := some (10, true) }) rfl (fun K hK => ?_) AllReadyH.nil)
      rw [if_pos (by rfl)]
      go_simp
      go_at_call 19
      refine (equalV (k := 2) (Q := true) (2 : Nat) (2 : Nat) vL11.out hn5 (by omega) (eqQ _ Q13.out) ZL11.out ZL7.out _ _ _ _ _ hrr12 (Hb10x.out.grown hgr13)).mono ?_
      rintro e wc15 ⟨rfl, gc15⟩
      have hgr15 := World.grownBy.trans hgr13 gc15
      go_wp2_with fail
      refine hK.out _ _ (HS.out _ hgr15) (fun hHeld => ?_)
      clear hK K
      try simp only [Act.put, List.setIfInBounds_toArray, List.set_cons_zero, List.set_cons_succ]
      refine wpAnyH_take (i := 16) (oi := { dst := some 94, op := Op.pick (Operand.tmp 88) (Operand.tmp 93) (Operand.const (Value.bool false)), type := 4, pos := "law.go:168", after := #[{ on := 10, ground := Ground.data }, { on := 15, ground := Ground.data }], guard := none }) (v := ?_) rfl (by kernel_rfl) (by kernel_rfl) (by kernel_rfl) (fun _ _ _ h => h) (Or.inl ⟨by rfl, ?_⟩) (by assumption) ?_
      rotate_left 1
      · (intro W hSW; (try dsimp only at hSW); first | (go_simp; done) | (go_simp; with_reducible rfl))
      try simp only [Act.put, List.setIfInBounds_toArray, List.set_cons_zero, List.set_cons_succ]
      refine wpAnyH_take (i := 17) (oi := { dst := some 95, op := Op.move (Operand.tmp 94), type := 4, pos := "law.go:168", after := #[{ on := 16, ground := Ground.data }, { on := 15, ground := Ground.chain }], guard := none }) (v := ?_) rfl (by kernel_rfl) (by kernel_rfl) (by kernel_rfl) (fun _ _ _ h => h) (Or.inl ⟨by rfl, ?_⟩) (by assumption) ?_
      rotate_left 1
      · (intro W hSW; (try dsimp only at hSW); first | (go_simp; done) | (go_simp; with_reducible rfl))
      try simp only [Act.put, List.setIfInBounds_toArray, List.set_cons_zero, List.set_cons_succ]
      refine wpAnyH_take (i := 18) (oi := { dst := some 96, op := Op.move (Operand.tmp 4), type := 3, pos := "law.go:168", after := #[{ on := 17, ground := Ground.guard }], guard := some (17, true) }) (v := ?_) rfl (by kernel_rfl) (by kernel_rfl) (by kernel_rfl) (fun _ _ _ h => h) (Or.inl ⟨by rfl, ?_⟩) (by assumption) ?_
      rotate_left 1
      · (intro W hSW; (try dsimp only at hSW); first | (go_simp; done) | (go_simp; with_reducible rfl))
      try simp only [Act.put, List.setIfInBounds_toArray, List.set_cons_zero, List.set_cons_succ]
      refine wpAnyH_take (i := 19) (oi := { dst := some 97, op := Op.load 27 (Operand.tmp 5), type := 27, pos := "law.go:168", after := #[{ on := 17, ground := Ground.guard }], guard := some (17, true) }) (v := ?_) rfl (by kernel_rfl) (by kernel_rfl) (by kernel_rfl) (fun _ _ _ h => h) (Or.inl ⟨by rfl, ?_⟩) (by assumption) ?_
      rotate_left 1
      · (intro W hSW; (try dsimp only at hSW); first | (go_simp; done) | (go_simp; with_reducible rfl))
      try simp only [Act.put, List.setIfInBounds_toArray, List.set_cons_zero, List.set_cons_succ]
      refine wpAnyH_take (i := 20) (oi := { dst := some 98, op := Op.load 27 (Operand.tmp 6), type := 27, pos := "law.go:168", after := #[{ on := 17, ground := Ground.guard }], guard := some (17, true) }) (v := ?_) rfl (by kernel_rfl) (by kernel_rfl) (by kernel_rfl) (fun _ _ _ h => h) (Or.inl ⟨by rfl, ?_⟩) (by assumption) ?_
      rotate_left 1
      · (intro W hSW; (try dsimp only at hSW); first | (go_simp; done) | (go_simp; with_reducible rfl))
      try simp only [Act.put, List.setIfInBounds_toArray, List.set_cons_zero, List.set_cons_succ]
      refine wpAnyH_take (i := 23) (oi := { dst := some 101, op := Op.move (Operand.tmp 4), type := 3, pos := "law.go:168", after := #[{ on := 17, ground := Ground.guard }], guard := some (17, true) }) (v := ?_) rfl (by kernel_rfl) (by kernel_rfl) (by kernel_rfl) (fun _ _ _ h => h) (Or.inl ⟨by rfl, ?_⟩) (by assumption) ?_
      rotate_left 1
      · (intro W hSW; (try dsimp only at hSW); first | (go_simp; done) | (go_simp; with_reducible rfl))
      try simp only [Act.put, List.setIfInBounds_toArray, List.set_cons_zero, List.set_cons_succ]
      refine wpAnyH_take (i := 24) (oi := { dst := some 102, op := Op.load 27 (Operand.tmp 5), type := 27, pos := "law.go:168", after := #[{ on := 17, ground := Ground.guard }], guard := some (17, true) }) (v := ?_) rfl (by kernel_rfl) (by kernel_rfl) (by kernel_rfl) (fun _ _ _ h => h) (Or.inl ⟨by rfl, ?_⟩) (by assumption) ?_
      rotate_left 1
      · (intro W hSW; (try dsimp only at hSW); first | (go_simp; done) | (go_simp; with_reducible rfl))
      try simp only [Act.put, List.setIfInBounds_toArray, List.set_cons_zero, List.set_cons_succ]
      refine wpAnyH_take (i := 26) (oi := { dst := some 104, op := Op.move (Operand.tmp 4), type := 3, pos := "law.go:168", after := #[{ on := 17, ground := Ground.guard }], guard := some (17, true) }) (v := ?_) rfl (by kernel_rfl) (by kernel_rfl) (by kernel_rfl) (fun _ _ _ h => h) (Or.inl ⟨by rfl, ?_⟩) (by assumption) ?_
      rotate_left 1
      · (intro W hSW; (try dsimp only at hSW); first | (go_simp; done) | (go_simp; with_reducible rfl))
      try simp only [Act.put, List.setIfInBounds_toArray, List.set_cons_zero, List.set_cons_succ]
      refine wpAnyH_take (i := 27) (oi := { dst := some 105, op := Op.load 27 (Operand.tmp 6), type := 27, pos := "law.go:168", after := #[{ on := 17, ground := Ground.guard }], guard := some (17, true) }) (v := ?_) rfl (by kernel_rfl) (by kernel_rfl) (by kernel_rfl) (fun _ _ _ h => h) (Or.inl ⟨by rfl, ?_⟩) (by assumption) ?_
      rotate_left 1
      · (intro W hSW; (try dsimp only at hSW); first | (go_simp; done) | (go_simp; with_reducible rfl))
      try simp only [Act.put, List.setIfInBounds_toArray, List.set_cons_zero, List.set_cons_succ]
      refine wpAnyH_ready (rs := [21]) (by kernel_rfl) (by simp) ?_
      refine (AllReadyH.cons (o := { dst := some 99, op := Op.call { callee := Callee.value (Operand.func 27), args := #[Operand.tmp 97, Operand.tmp 98], argTypes := #[27, 27] }, type := 27, pos := "law.go:168", after := #[{ on := 19, ground := Ground.data }, { on := 20, ground := Ground.data }, { on := 17, ground := Ground.chain }, { on := 17, ground := Ground.guard }], guard := some (17, true) }) rfl (fun K hK => ?_) AllReadyH.nil)
      rw [if_pos (by rfl)]
      go_simp
      go_at_call 27
      refine (unionV (2 : Nat) (2 : Nat) vL1.out vL2.out hn5 (by omega) (by rw [← EL1.out, ← EL2.out]; exact EL12.out) ZL1.out ZL2.out ZL12.out _ _ _ _ _ (Ha.out.grown hgr15) (Hb.out.grown hgr15)).mono ?_
      rintro e wc21 ⟨xr14, yr14, rfl, hrr14, gc21⟩
      have hgr21 := World.grownBy.trans hgr15 gc21
      go_wp2_with fail
      refine hK.out _ _ (HS.out _ hgr21) (fun hHeld => ?_)
      clear hK K
      try simp only [Act.put, List.setIfInBounds_toArray, List.set_cons_zero, List.set_cons_succ]
      refine wpAnyH_ready (rs := [22]) (by kernel_rfl) (by simp) ?_
      refine (AllReadyH.cons (o := { dst := some 100, op := Op.call { callee := Callee.value (Operand.func 21), args := #[Operand.tmp 96, Operand.tmp 99], argTypes := #[3, 27] }, type := 27, pos := "law.go:168", after := #[{ on := 18, ground := Ground.data }, { on := 21, ground := Ground.data }, { on := 21, ground := Ground.chain }, { on := 17, ground := Ground.guard }], guard := some (17, true) }) rfl (fun K hK => ?_) AllReadyH.nil)
      rw [if_pos (by rfl)]
      go_simp
      go_at_call 21
      refine (turnV vL12.out hn1 hn5 (by rw [← EL12.out]; exact EL13.out) ZL12.out ZL13.out _ _ _ hrr14).mono ?_
      rintro e wc22 ⟨xr15, yr15, rfl, hrr15, gc22⟩
      have hgr22 := World.grownBy.trans hgr21 gc22
      go_wp2_with fail
      refine hK.out _ _ (HS.out _ hgr22) (fun hHeld => ?_)
      clear hK K
      try simp only [Act.put, List.setIfInBounds_toArray, List.set_cons_zero, List.set_cons_succ]
      refine wpAnyH_ready (rs := [25]) (by kernel_rfl) (by simp) ?_
      refine (AllReadyH.cons (o := { dst := some 103, op := Op.call { callee := Callee.value (Operand.func 21), args := #[Operand.tmp 101, Operand.tmp 102], argTypes := #[3, 27] }, type := 27, pos := "law.go:168", after := #[{ on := 23, ground := Ground.data }, { on := 24, ground := Ground.data }, { on := 22, ground := Ground.chain }, { on := 17, ground := Ground.guard }], guard := some (17, true) }) rfl (fun K hK => ?_) AllReadyH.nil)
      rw [if_pos (by rfl)]
      go_simp
      go_at_call 21
      refine (turnV vL1.out hn1 hn5 (by rw [← EL1.out]; exact EL6.out) ZL1.out ZL6.out _ _ _ (Ha.out.grown hgr22)).mono ?_
      rintro e wc25 ⟨xr16, yr16, rfl, hrr16, gc25⟩
      have hgr25 := World.grownBy.trans hgr22 gc25
      go_wp2_with fail
      refine hK.out _ _ (HS.out _ hgr25) (fun hHeld => ?_)
      clear hK K
      try simp only [Act.put, List.setIfInBounds_toArray, List.set_cons_zero, List.set_cons_succ]
      refine wpAnyH_ready (rs := [28]) (by kernel_rfl) (by simp) ?_
      refine (AllReadyH.cons (o := { dst := some 106, op := Op.call { callee := Callee.value (Operand.func 21), args := #[Operand.tmp 104, Operand.tmp 105], argTypes := #[3, 27] }, type := 27, pos := "law.go:168", after := #[{ on := 26, ground := Ground.data }, { on := 27, ground := Ground.data }, { on := 25, ground := Ground.chain }, { on := 17, ground := Ground.guard }], guard := some (17, true) }) rfl (fun K hK => ?_) AllReadyH.nil)
      rw [if_pos (by rfl)]
      go_simp
      go_at_call 21
      refine (turnV vL2.out hn1 hn5 (by rw [← EL2.out]; exact EL5.out) ZL2.out ZL5.out _ _ _ (Hb.out.grown hgr25)).mono ?_
      rintro e wc28 ⟨xr17, yr17, rfl, hrr17, gc28⟩
      have hgr28 := World.grownBy.trans hgr25 gc28
      go_wp2_with fail
      refine hK.out _ _ (HS.out _ hgr28) (fun hHeld => ?_)
      clear hK K
      try simp only [Act.put, List.setIfInBounds_toArray, List.set_cons_zero, List.set_cons_succ]
      refine wpAnyH_ready (rs := [29]) (by kernel_rfl) (by simp) ?_
      refine (AllReadyH.cons (o := { dst := some 107, op := Op.call { callee := Callee.value (Operand.func 27), args := #[Operand.tmp 103, Operand.tmp 106], argTypes := #[27, 27] }, type := 27, pos := "law.go:168", after := #[{ on := 25, ground := Ground.data }, { on := 28, ground := Ground.data }, { on := 28, ground := Ground.chain }, { on := 17, ground := Ground.guard }], guard := some (17, true) }) rfl (fun K hK => ?_) AllReadyH.nil)
      rw [if_pos (by rfl)]
      go_simp
      go_at_call 27
      refine (unionV (2 : Nat) (2 : Nat) vL6.out vL5.out hn5 (by omega) (by rw [← EL6.out, ← EL5.out]; exact EL14.out) ZL6.out ZL5.out ZL14.out _ _ _ _ _ (hrr16.grown gc28) hrr17).mono ?_
      rintro e wc29 ⟨xr18, yr18, rfl, hrr18, gc29⟩
      have hgr29 := World.grownBy.trans hgr28 gc29
      go_wp2_with fail
      refine hK.out _ _ (HS.out _ hgr29) (fun hHeld => ?_)
      clear hK K
      try simp only [Act.put, List.setIfInBounds_toArray, List.set_cons_zero, List.set_cons_succ]
      refine wpAnyH_ready (rs := [30]) (by kernel_rfl) (by simp) ?_
      refine (AllReadyH.cons (o := { dst := some 108, op := Op.call { callee := Callee.value (Operand.func 19), args := #[Operand.tmp 100, Operand.tmp 107], argTypes := #[27, 27] }, type := 4, pos := "law.go:168", after := #[{ on := 22, ground := Ground.data }, { on := 29, ground := Ground.data }, { on := 29, ground := Ground.chain }, { on := 17, ground := Ground.guard }], guard := some (17, true) }) rfl (fun K hK => ?_) AllReadyH.nil)
      rw [if_pos (by rfl)]
      go_simp
      go_at_call 19
      refine (equalV (k := 2) (Q := true) (2 : Nat) (2 : Nat) vL13.out hn5 (by omega) (eqQ _ Q19.out) ZL13.out ZL14.out _ _ _ _ _ (hrr15.grown (World.grownBy.trans (World.grownBy.trans gc25 gc28) gc29)) hrr18).mono ?_
      rintro e wc30 ⟨rfl, gc30⟩
      have hgr30 := World.grownBy.trans hgr29 gc30
      go_wp2_with fail
      refine hK.out _ _ (HS.out _ hgr30) (fun hHeld => ?_)
      clear hK K
      try simp only [Act.put, List.setIfInBounds_toArray, List.set_cons_zero, List.set_cons_succ]
      refine wpAnyH_take (i := 31) (oi := { dst := some 109, op := Op.pick (Operand.tmp 95) (Operand.tmp 108) (Operand.const (Value.bool false)), type := 4, pos := "law.go:168", after := #[{ on := 17, ground := Ground.data }, { on := 30, ground := Ground.data }], guard := none }) (v := ?_) rfl (by kernel_rfl) (by kernel_rfl) (by kernel_rfl) (fun _ _ _ h => h) (Or.inl ⟨by rfl, ?_⟩) (by assumption) ?_
      rotate_left 1
      · (intro W hSW; (try dsimp only at hSW); first | (go_simp; done) | (go_simp; with_reducible rfl))
      try simp only [Act.put, List.setIfInBounds_toArray, List.set_cons_zero, List.set_cons_succ]
      refine wpAnyH_take (i := 32) (oi := { dst := some 110, op := Op.move (Operand.tmp 109), type := 4, pos := "law.go:168", after := #[{ on := 31, ground := Ground.data }, { on := 30, ground := Ground.chain }], guard := none }) (v := ?_) rfl (by kernel_rfl) (by kernel_rfl) (by kernel_rfl) (fun _ _ _ h => h) (Or.inl ⟨by rfl, ?_⟩) (by assumption) ?_
      rotate_left 1
      · (intro W hSW; (try dsimp only at hSW); first | (go_simp; done) | (go_simp; with_reducible rfl))
      try simp only [Act.put, List.setIfInBounds_toArray, List.set_cons_zero, List.set_cons_succ]
      refine wpAnyH_take (i := 33) (oi := { dst := some 111, op := Op.load 27 (Operand.tmp 5), type := 27, pos := "law.go:168", after := #[{ on := 32, ground := Ground.guard }], guard := some (32, true) }) (v := ?_) rfl (by kernel_rfl) (by kernel_rfl) (by kernel_rfl) (fun _ _ _ h => h) (Or.inl ⟨by rfl, ?_⟩) (by assumption) ?_
      rotate_left 1
      · (intro W hSW; (try dsimp only at hSW); first | (go_simp; done) | (go_simp; with_reducible rfl))
      try simp only [Act.put, List.setIfInBounds_toArray, List.set_cons_zero, List.set_cons_succ]
      refine wpAnyH_take (i := 34) (oi := { dst := some 112, op := Op.load 27 (Operand.tmp 6), type := 27, pos := "law.go:168", after := #[{ on := 32, ground := Ground.guard }], guard := some (32, true) }) (v := ?_) rfl (by kernel_rfl) (by kernel_rfl) (by kernel_rfl) (fun _ _ _ h => h) (Or.inl ⟨by rfl, ?_⟩) (by assumption) ?_
      rotate_left 1
      · (intro W hSW; (try dsimp only at hSW); first | (go_simp; done) | (go_simp; with_reducible rfl))
      try simp only [Act.put, List.setIfInBounds_toArray, List.set_cons_zero, List.set_cons_succ]
      refine wpAnyH_take (i := 36) (oi := { dst := some 114, op := Op.move (Operand.tmp 4), type := 3, pos := "law.go:168", after := #[{ on := 32, ground := Ground.guard }], guard := some (32, true) }) (v := ?_) rfl (by kernel_rfl) (by kernel_rfl) (by kernel_rfl) (fun _ _ _ h => h) (Or.inl ⟨by rfl, ?_⟩) (by assumption) ?_
      rotate_left 1
      · (intro W hSW; (try dsimp only at hSW); first | (go_simp; done) | (go_simp; with_reducible rfl))
      try simp only [Act.put, List.setIfInBounds_toArray, List.set_cons_zero, List.set_cons_succ]
      refine wpAnyH_take (i := 37) (oi := { dst := some 115, op := Op.load 27 (Operand.tmp 5), type := 27, pos := "law.go:168", after := #[{ on := 32, ground := Ground.guard }], guard := some (32, true) }) (v := ?_) rfl (by kernel_rfl) (by kernel_rfl) (by kernel_rfl) (fun _ _ _ h => h) (Or.inl ⟨by rfl, ?_⟩) (by assumption) ?_
      rotate_left 1
      · (intro W hSW; (try dsimp only at hSW); first | (go_simp; done) | (go_simp; with_reducible rfl))
      try simp only [Act.put, List.setIfInBounds_toArray, List.set_cons_zero, List.set_cons_succ]
      refine wpAnyH_take (i := 39) (oi := { dst := some 117, op := Op.move (Operand.tmp 4), type := 3, pos := "law.go:168", after := #[{ on := 32, ground := Ground.guard }], guard := some (32, true) }) (v := ?_) rfl (by kernel_rfl) (by kernel_rfl) (by kernel_rfl) (fun _ _ _ h => h) (Or.inl ⟨by rfl, ?_⟩) (by assumption) ?_
      rotate_left 1
      · (intro W hSW; (try dsimp only at hSW); first | (go_simp; done) | (go_simp; with_reducible rfl))
      try simp only [Act.put, List.setIfInBounds_toArray, List.set_cons_zero, List.set_cons_succ]
      refine wpAnyH_take (i := 40) (oi := { dst := some 118, op := Op.load 27 (Operand.tmp 6), type := 27, pos := "law.go:168", after := #[{ on := 32, ground := Ground.guard }], guard := some (32, true) }) (v := ?_) rfl (by kernel_rfl) (by kernel_rfl) (by kernel_rfl) (fun _ _ _ h => h) (Or.inl ⟨by rfl, ?_⟩) (by assumption) ?_
      rotate_left 1
      · (intro W hSW; (try dsimp only at hSW); first | (go_simp; done) | (go_simp; with_reducible rfl))
      try simp only [Act.put, List.setIfInBounds_toArray, List.set_cons_zero, List.set_cons_succ]
      refine wpAnyH_ready (rs := [35]) (by kernel_rfl) (by simp) ?_
      refine (AllReadyH.cons (o := { dst := some 113, op := Op.call { callee := Callee.value (Operand.func 35), args := #[Operand.tmp 111, Operand.tmp 112], argTypes := #[27, 27] }, type := 4, pos := "law.go:168", after := #[{ on := 33, ground := Ground.data }, { on := 34, ground := Ground.data }, { on := 32, ground := Ground.chain }, { on := 32, ground := Ground.guard }], guard := some (32, true) }) rfl (fun K hK => ?_) AllReadyH.nil)
      rw [if_pos (by rfl)]
      go_simp
      go_at_call 35
      refine (inV (k := 2) (Q := Q) (2 : Nat) (2 : Nat) vL1.out vL2.out hn5 (by omega) Q20.out ZL1.out ZL2.out _ _ _ _ _ (Ha.out.grown hgr30) (Hb.out.grown hgr30)).mono ?_
      rintro e wc35 ⟨rfl, gc35⟩
      have hgr35 := World.grownBy.trans hgr30 gc35
      go_wp2_with fail
      refine hK.out _ _ (HS.out _ hgr35) (fun hHeld => ?_)
      clear hK K
      try simp only [Act.put, List.setIfInBounds_toArray, List.set_cons_zero, List.set_cons_succ]
      refine wpAnyH_ready (rs := [38]) (by kernel_rfl) (by simp) ?_
      refine (AllReadyH.cons (o := { dst := some 116, op := Op.call { callee := Callee.value (Operand.func 21), args := #[Operand.tmp 114, Operand.tmp 115], argTypes := #[3, 27] }, type := 27, pos := "law.go:168", after := #[{ on := 36, ground := Ground.data }, { on := 37, ground := Ground.data }, { on := 35, ground := Ground.chain }, { on := 32, ground := Ground.guard }], guard := some (32, true) }) rfl (fun K hK => ?_) AllReadyH.nil)
      rw [if_pos (by rfl)]
      go_simp
      go_at_call 21
      refine (turnV vL1.out hn1 hn5 (by rw [← EL1.out]; exact EL6.out) ZL1.out ZL6.out _ _ _ (Ha.out.grown hgr35)).mono ?_
      rintro e wc38 ⟨xr21, yr21, rfl, hrr21, gc38⟩
      have hgr38 := World.grownBy.trans hgr35 gc38
      go_wp2_with fail
      refine hK.out _ _ (HS.out _ hgr38) (fun hHeld => ?_)
      clear hK K
      try simp only [Act.put, List.setIfInBounds_toArray, List.set_cons_zero, List.set_cons_succ]
      refine wpAnyH_ready (rs := [41]) (by kernel_rfl) (by simp) ?_
      refine (AllReadyH.cons (o := { dst := some 119, op := Op.call { callee := Callee.value (Operand.func 21), args := #[Operand.tmp 117, Operand.tmp 118], argTypes := #[3, 27] }, type := 27, pos := "law.go:168", after := #[{ on := 39, ground := Ground.data }, { on := 40, ground := Ground.data }, { on := 38, ground := Ground.chain }, { on := 32, ground := Ground.guard }], guard := some (32, true) }) rfl (fun K hK => ?_) AllReadyH.nil)
      rw [if_pos (by rfl)]
      go_simp
      go_at_call 21
      refine (turnV vL2.out hn1 hn5 (by rw [← EL2.out]; exact EL5.out) ZL2.out ZL5.out _ _ _ (Hb.out.grown hgr38)).mono ?_
      rintro e wc41 ⟨xr22, yr22, rfl, hrr22, gc41⟩
      have hgr41 := World.grownBy.trans hgr38 gc41
      go_wp2_with fail
      refine hK.out _ _ (HS.out _ hgr41) (fun hHeld => ?_)
      clear hK K
      try simp only [Act.put, List.setIfInBounds_toArray, List.set_cons_zero, List.set_cons_succ]
      refine wpAnyH_ready (rs := [42]) (by kernel_rfl) (by simp) ?_
      refine (AllReadyH.cons (o := { dst := some 120, op := Op.call { callee := Callee.value (Operand.func 35), args := #[Operand.tmp 116, Operand.tmp 119], argTypes := #[27, 27] }, type := 4, pos := "law.go:168", after := #[{ on := 38, ground := Ground.data }, { on := 41, ground := Ground.data }, { on := 41, ground := Ground.chain }, { on := 32, ground := Ground.guard }], guard := some (32, true) }) rfl (fun K hK => ?_) AllReadyH.nil)
      rw [if_pos (by rfl)]
      go_simp
      go_at_call 35
      refine (inV (k := 2) (Q := Q) (2 : Nat) (2 : Nat) vL6.out vL5.out hn5 (by omega) Q23.out ZL6.out ZL5.out _ _ _ _ _ (hrr21.grown gc41) hrr22).mono ?_
      rintro e wc42 ⟨rfl, gc42⟩
      have hgr42 := World.grownBy.trans hgr41 gc42
      go_wp2_with fail
      refine hK.out _ _ (HS.out _ hgr42) (fun hHeld => ?_)
      clear hK K
      try simp only [Act.put, List.setIfInBounds_toArray, List.set_cons_zero, List.set_cons_succ]
      refine wpAnyH_take (i := 43) (oi := { dst := some 121, op := Op.binOp BinOp.eql 4 (Operand.tmp 113) (Operand.tmp 120) 4, type := 4, pos := "law.go:168", after := #[{ on := 35, ground := Ground.data }, { on := 42, ground := Ground.data }, { on := 32, ground := Ground.guard }], guard := some (32, true) }) (v := ?_) rfl (by kernel_rfl) (by kernel_rfl) (by kernel_rfl) (fun _ _ _ h => h) (Or.inl ⟨by rfl, ?_⟩) (by assumption) ?_
      rotate_left 1
      · (intro W hSW; (try dsimp only at hSW); first | (go_simp; done) | (go_simp; with_reducible rfl))
      try simp only [Act.put, List.setIfInBounds_toArray, List.set_cons_zero, List.set_cons_succ]
      refine wpAnyH_take (i := 44) (oi := { dst := some 122, op := Op.pick (Operand.tmp 110) (Operand.tmp 121) (Operand.const (Value.bool false)), type := 4, pos := "law.go:168", after := #[{ on := 32, ground := Ground.data }, { on := 43, ground := Ground.data }], guard := none }) (v := ?_) rfl (by kernel_rfl) (by kernel_rfl) (by kernel_rfl) (fun _ _ _ h => h) (Or.inl ⟨by rfl, ?_⟩) (by assumption) ?_
      rotate_left 1
      · (intro W hSW; (try dsimp only at hSW); first | (go_simp; done) | (go_simp; with_reducible rfl))
      try simp only [Act.put, List.setIfInBounds_toArray, List.set_cons_zero, List.set_cons_succ]
      refine wpAnyH_take (i := 45) (oi := { dst := some 123, op := Op.move (Operand.tmp 122), type := 4, pos := "law.go:168", after := #[{ on := 44, ground := Ground.data }, { on := 42, ground := Ground.chain }], guard := none }) (v := ?_) rfl (by kernel_rfl) (by kernel_rfl) (by kernel_rfl) (fun _ _ _ h => h) (Or.inl ⟨by rfl, ?_⟩) (by assumption) ?_
      rotate_left 1
      · (intro W hSW; (try dsimp only at hSW); first | (go_simp; done) | (go_simp; with_reducible rfl))
      try simp only [Act.put, List.setIfInBounds_toArray, List.set_cons_zero, List.set_cons_succ]
      refine wpAnyH_take (i := 46) (oi := { dst := some 124, op := Op.load 27 (Operand.tmp 12), type := 27, pos := "law.go:168", after := #[{ on := 45, ground := Ground.guard }], guard := some (45, true) }) (v := ?_) rfl (by kernel_rfl) (by kernel_rfl) (by kernel_rfl) (fun _ _ _ h => h) (Or.inl ⟨by rfl, ?_⟩) (by assumption) ?_
      rotate_left 1
      · (intro W hSW; (try dsimp only at hSW); first | (go_simp; done) | (go_simp; with_reducible rfl))
      try simp only [Act.put, List.setIfInBounds_toArray, List.set_cons_zero, List.set_cons_succ]
      refine wpAnyH_take (i := 47) (oi := { dst := some 125, op := Op.load 27 (Operand.tmp 14), type := 27, pos := "law.go:168", after := #[{ on := 45, ground := Ground.guard }], guard := some (45, true) }) (v := ?_) rfl (by kernel_rfl) (by kernel_rfl) (by kernel_rfl) (fun _ _ _ h => h) (Or.inl ⟨by rfl, ?_⟩) (by assumption) ?_
      rotate_left 1
      · (intro W hSW; (try dsimp only at hSW); first | (go_simp; done) | (go_simp; with_reducible rfl))
      try simp only [Act.put, List.setIfInBounds_toArray, List.set_cons_zero, List.set_cons_succ]
      refine wpAnyH_ready (rs := [48]) (by kernel_rfl) (by simp) ?_
      refine (AllReadyH.cons (o := { dst := some 126, op := Op.call { callee := Callee.value (Operand.func 19), args := #[Operand.tmp 124, Operand.tmp 125], argTypes := #[27, 27] }, type := 4, pos := "law.go:168", after := #[{ on := 46, ground := Ground.data }, { on := 47, ground := Ground.data }, { on := 45, ground := Ground.chain }, { on := 45, ground := Ground.guard }], guard := some (45, true) }) rfl (fun K hK => ?_) AllReadyH.nil)
      rw [if_pos (by rfl)]
      go_simp
      go_at_call 19
      refine (equalV (k := 1) (Q := true) (1 : Nat) (1 : Nat) vL8.out hn5 (by omega) (eqQ _ Q24.out) ZL8.out ZL9.out _ _ _ _ _ (Hr6.out.grown hgr42) (Hb14x.out.grown hgr42)).mono ?_
      rintro e wc48 ⟨rfl, gc48⟩
      have hgr48 := World.grownBy.trans hgr42 gc48
      go_wp2_with fail
      refine hK.out _ _ (HS.out _ hgr48) (fun hHeld => ?_)
      clear hK K
      try simp only [Act.put, List.setIfInBounds_toArray, List.set_cons_zero, List.set_cons_succ]
      refine wpAnyH_take (i := 49) (oi := { dst := some 127, op := Op.pick (Operand.tmp 123) (Operand.tmp 126) (Operand.const (Value.bool false)), type := 4, pos := "law.go:168", after := #[{ on := 45, ground := Ground.data }, { on := 48, ground := Ground.data }], guard := none }) (v := ?_) rfl (by kernel_rfl) (by kernel_rfl) (by kernel_rfl) (fun _ _ _ h => h) (Or.inl ⟨by rfl, ?_⟩) (by assumption) ?_
      rotate_left 1
      · (intro W hSW; (try dsimp only at hSW); first | (go_simp; done) | (go_simp; with_reducible rfl))
      try simp only [Act.put, List.setIfInBounds_toArray, List.set_cons_zero, List.set_cons_succ]
      refine wpAnyH_take (i := 50) (oi := { dst := some 128, op := Op.move (Operand.tmp 127), type := 4, pos := "law.go:168", after := #[{ on := 49, ground := Ground.data }, { on := 48, ground := Ground.chain }], guard := none }) (v := ?_) rfl (by kernel_rfl) (by kernel_rfl) (by kernel_rfl) (fun _ _ _ h => h) (Or.inl ⟨by rfl, ?_⟩) (by assumption) ?_
      rotate_left 1
      · (intro W hSW; (try dsimp only at hSW); first | (go_simp; done) | (go_simp; with_reducible rfl))
      try simp only [Act.put, List.setIfInBounds_toArray, List.set_cons_zero, List.set_cons_succ]
      refine wpAnyH_take (i := 51) (oi := { dst := some 129, op := Op.move (Operand.tmp 4), type := 3, pos := "law.go:168", after := #[{ on := 50, ground := Ground.guard }], guard := some (50, true) }) (v := ?_) rfl (by kernel_rfl) (by kernel_rfl) (by kernel_rfl) (fun _ _ _ h => h) (Or.inl ⟨by rfl, ?_⟩) (by assumption) ?_
      rotate_left 1
      · (intro W hSW; (try dsimp only at hSW); first | (go_simp; done) | (go_simp; with_reducible rfl))
      try simp only [Act.put, List.setIfInBounds_toArray, List.set_cons_zero, List.set_cons_succ]
      refine wpAnyH_take (i := 52) (oi := { dst := some 130, op := Op.move (Operand.tmp 4), type := 3, pos := "law.go:168", after := #[{ on := 50, ground := Ground.guard }], guard := some (50, true) }) (v := ?_) rfl (by kernel_rfl) (by kernel_rfl) (by kernel_rfl) (fun _ _ _ h => h) (Or.inl ⟨by rfl, ?_⟩) (by assumption) ?_
      rotate_left 1
      · (intro W hSW; (try dsimp only at hSW); first | (go_simp; done) | (go_simp; with_reducible rfl))
      try simp only [Act.put, List.setIfInBounds_toArray, List.set_cons_zero, List.set_cons_succ]
      refine wpAnyH_take (i := 55) (oi := { dst := some 133, op := Op.move (Operand.tmp 4), type := 3, pos := "law.go:168", after := #[{ on := 50, ground := Ground.guard }], guard := some (50, true) }) (v := ?_) rfl (by kernel_rfl) (by kernel_rfl) (by kernel_rfl) (fun _ _ _ h => h) (Or.inl ⟨by rfl, ?_⟩) (by assumption) ?_
      rotate_left 1
      · (intro W hSW; (try dsimp only at hSW); first | (go_simp; done) | (go_simp; with_reducible rfl))
      try simp only [Act.put, List.setIfInBounds_toArray, List.set_cons_zero, List.set_cons_succ]
      refine wpAnyH_ready (rs := [53]) (by kernel_rfl) (by simp) ?_
      refine (AllReadyH.cons (o := { dst := some 131, op := Op.call { callee := Callee.value (Operand.func 25), args := #[Operand.tmp 130], argTypes := #[3] }, type := 27, pos := "law.go:168", after := #[{ on := 52, ground := Ground.data }, { on := 50, ground := Ground.chain }, { on := 50, ground := Ground.guard }], guard := some (50, true) }) rfl (fun K hK => ?_) AllReadyH.nil)
      rw [if_pos (by rfl)]
      go_simp
      go_at_call 25
      refine (idenV hn5 EL15.out ZL15.out _).mono ?_
      rintro e wc53 ⟨xr25, yr25, rfl, hrr25, gc53⟩
      have hgr53 := World.grownBy.trans hgr48 gc53
      go_wp2_with fail
      refine hK.out _ _ (HS.out _ hgr53) (fun hHeld => ?_)
      clear hK K
      try simp only [Act.put, List.setIfInBounds_toArray, List.set_cons_zero, List.set_cons_succ]
      refine wpAnyH_ready (rs := [54]) (by kernel_rfl) (by simp) ?_
      refine (AllReadyH.cons (o := { dst := some 132, op := Op.call { callee := Callee.value (Operand.func 21), args := #[Operand.tmp 129, Operand.tmp 131], argTypes := #[3, 27] }, type := 27, pos := "law.go:168", after := #[{ on := 51, ground := Ground.data }, { on := 53, ground := Ground.data }, { on := 53, ground := Ground.chain }, { on := 50, ground := Ground.guard }], guard := some (50, true) }) rfl (fun K hK => ?_) AllReadyH.nil)
      rw [if_pos (by rfl)]
      go_simp
      go_at_call 21
      refine (turnV vL15.out hn1 hn5 (by rw [← EL15.out]; exact EL16.out) ZL15.out ZL16.out _ _ _ hrr25).mono ?_
      rintro e wc54 ⟨xr26, yr26, rfl, hrr26, gc54⟩
      have hgr54 := World.grownBy.trans hgr53 gc54
      go_wp2_with fail
      refine hK.out _ _ (HS.out _ hgr54) (fun hHeld => ?_)
      clear hK K
      try simp only [Act.put, List.setIfInBounds_toArray, List.set_cons_zero, List.set_cons_succ]
      refine wpAnyH_ready (rs := [56]) (by kernel_rfl) (by simp) ?_
      refine (AllReadyH.cons (o := { dst := some 134, op := Op.call { callee := Callee.value (Operand.func 25), args := #[Operand.tmp 133], argTypes := #[3] }, type := 27, pos := "law.go:168", after := #[{ on := 55, ground := Ground.data }, { on := 54, ground := Ground.chain }, { on := 50, ground := Ground.guard }], guard := some (50, true) }) rfl (fun K hK => ?_) AllReadyH.nil)
      rw [if_pos (by rfl)]
      go_simp
      go_at_call 25
      refine (idenV hn5 EL15.out ZL15.out _).mono ?_
      rintro e wc56 ⟨xr27, yr27, rfl, hrr27, gc56⟩
      have hgr56 := World.grownBy.trans hgr54 gc56
      go_wp2_with fail
      refine hK.out _ _ (HS.out _ hgr56) (fun hHeld => ?_)
      clear hK K
      try simp only [Act.put, List.setIfInBounds_toArray, List.set_cons_zero, List.set_cons_succ]
      refine wpAnyH_ready (rs := [57]) (by kernel_rfl) (by simp) ?_
      refine (AllReadyH.cons (o := { dst := some 135, op := Op.call { callee := Callee.value (Operand.func 19), args := #[Operand.tmp 132, Operand.tmp 134], argTypes := #[27, 27] }, type := 4, pos := "law.go:168", after := #[{ on := 54, ground := Ground.data }, { on := 56, ground := Ground.data }, { on := 56, ground := Ground.chain }, { on := 50, ground := Ground.guard }], guard := some (50, true) }) rfl (fun K hK => ?_) AllReadyH.nil)
      rw [if_pos (by rfl)]
      go_simp
      go_at_call 19
      refine (equalV (k := 2) (Q := true) (2 : Nat) (2 : Nat) vL16.out hn5 (by omega) (eqQ _ Q28.out) ZL16.out ZL15.out _ _ _ _ _ (hrr26.grown gc56) hrr27).mono ?_
      rintro e wc57 ⟨rfl, gc57⟩
      have hgr57 := World.grownBy.trans hgr56 gc57
      go_wp2_with fail
      refine hK.out _ _ (HS.out _ hgr57) (fun hHeld => ?_)
      clear hK K
      try simp only [Act.put, List.setIfInBounds_toArray, List.set_cons_zero, List.set_cons_succ]
      refine wpAnyH_take (i := 58) (oi := { dst := some 136, op := Op.pick (Operand.tmp 128) (Operand.tmp 135) (Operand.const (Value.bool false)), type := 4, pos := "law.go:168", after := #[{ on := 50, ground := Ground.data }, { on := 57, ground := Ground.data }], guard := none }) (v := ?_) rfl (by kernel_rfl) (by kernel_rfl) (by kernel_rfl) (fun _ _ _ h => h) (Or.inl ⟨by rfl, ?_⟩) (by assumption) ?_
      rotate_left 1
      · (intro W hSW; (try dsimp only at hSW); first | (go_simp; done) | (go_simp; with_reducible rfl))
      try simp only [Act.put, List.setIfInBounds_toArray, List.set_cons_zero, List.set_cons_succ]
      refine wpAnyH_take (i := 59) (oi := { dst := some 2, op := Op.assign (Operand.tmp 136), type := 4, pos := "law.go:168", after := #[{ on := 58, ground := Ground.data }, { on := 57, ground := Ground.chain }, { on := 0, ground := Ground.phase }, { on := 1, ground := Ground.phase }, { on := 2, ground := Ground.phase }, { on := 3, ground := Ground.phase }, { on := 4, ground := Ground.phase }, { on := 5, ground := Ground.phase }, { on := 6, ground := Ground.phase }, { on := 7, ground := Ground.phase }, { on := 8, ground := Ground.phase }, { on := 9, ground := Ground.phase }, { on := 10, ground := Ground.phase }, { on := 11, ground := Ground.phase }, { on := 12, ground := Ground.phase }, { on := 13, ground := Ground.phase }, { on := 14, ground := Ground.phase }, { on := 15, ground := Ground.phase }, { on := 16, ground := Ground.phase }, { on := 17, ground := Ground.phase }, { on := 18, ground := Ground.phase }, { on := 19, ground := Ground.phase }, { on := 20, ground := Ground.phase }, { on := 21, ground := Ground.phase }, { on := 22, ground := Ground.phase }, { on := 23, ground := Ground.phase }, { on := 24, ground := Ground.phase }, { on := 25, ground := Ground.phase }, { on := 26, ground := Ground.phase }, { on := 27, ground := Ground.phase }, { on := 28, ground := Ground.phase }, { on := 29, ground := Ground.phase }, { on := 30, ground := Ground.phase }, { on := 31, ground := Ground.phase }, { on := 32, ground := Ground.phase }, { on := 33, ground := Ground.phase }, { on := 34, ground := Ground.phase }, { on := 35, ground := Ground.phase }, { on := 36, ground := Ground.phase }, { on := 37, ground := Ground.phase }, { on := 38, ground := Ground.phase }, { on := 39, ground := Ground.phase }, { on := 40, ground := Ground.phase }, { on := 41, ground := Ground.phase }, { on := 42, ground := Ground.phase }, { on := 43, ground := Ground.phase }, { on := 44, ground := Ground.phase }, { on := 45, ground := Ground.phase }, { on := 46, ground := Ground.phase }, { on := 47, ground := Ground.phase }, { on := 48, ground := Ground.phase }, { on := 49, ground := Ground.phase }, { on := 50, ground := Ground.phase }, { on := 51, ground := Ground.phase }, { on := 52, ground := Ground.phase }, { on := 53, ground := Ground.phase }, { on := 54, ground := Ground.phase }, { on := 55, ground := Ground.phase }, { on := 56, ground := Ground.phase }, { on := 57, ground := Ground.phase }, { on := 58, ground := Ground.phase }], guard := none }) (v := ?_) rfl (by kernel_rfl) (by kernel_rfl) (by kernel_rfl) (fun _ _ _ h => h) (Or.inl ⟨by rfl, ?_⟩) (by assumption) ?_
      rotate_left 1
      · (intro W hSW; (try dsimp only at hSW); first | (go_simp; done) | (go_simp; with_reducible rfl))
      try simp only [Act.put, List.setIfInBounds_toArray, List.set_cons_zero, List.set_cons_succ]
      refine wpAnyH_done (by kernel_rfl) ?_ _
      have hEND := hgr57
      clear hHeld
      have HE := Lib.hid (World.grownBy.trans HG.out hEND)
      clear hEND
      go_wp2_with fail
      go_ret
      exact ⟨rfl, HE.out⟩
end Go.Proofs.Ytkoigonbncpbaaa
