/- RelationValidity: the law walked, the other arities. -/
import Derived.Test.YtkoigonbncpbaaaL4a
namespace Go.Proofs.Ytkoigonbncpbaaa
open Go.RowKit Go.Shelf

set_option maxRecDepth 100000 in
set_option maxHeartbeats 20000000 in
theorem validity_5 (N Ar : Nat) (A0 B0 C0 : List Nat) (aa ab ac : Option Addr) (ca cb cc : Nat) (z : Nat) (W0 : World) (h : RawAt W0 N Ar A0 B0 C0 aa ab ac ca cb cc) (hz : z < 256) (hs : 1 + Ar % 3 + (1 + z % 3) = 5) :
    Calls Try.prog 4 #[.agg #[.int .u8 (N : Int), .int .u8 (Ar : Int), .slice aa A0.length ca, .slice ab B0.length cb, .slice ac C0.length cc], .int .u8 (z : Int)] W0 fun e w' => e = .returned (.bool true) ∧ W0.grownBy w' none := by
  have hAr := h.hAr
  obtain ⟨n, hn⟩ : ∃ n, 1 + N % 5 = n := ⟨_, rfl⟩
  obtain ⟨k, hk⟩ : ∃ k, 1 + Ar % 3 = k := ⟨_, rfl⟩
  have hn1 : 1 ≤ n := by omega
  have hn5 : n ≤ 5 := by omega
  have hk1 : 1 ≤ k := by omega
  have hk3 : k ≤ 3 := by omega
  have hNN := Lib.hid hn; have hKK := Lib.hid hk
  clear hn hk hAr
  obtain ⟨r, hr⟩ : ∃ r, z % 3 = r := ⟨_, rfl⟩
  obtain ⟨j, hj⟩ : ∃ j, 1 + r = j := ⟨_, rfl⟩
  have hmod : (z : Int).tmod 3 = (r : Int) := by rw [Int.tmod_eq_emod_of_nonneg (by omega)]; omega
  have hwn : IntKind.i64.wrap (z : Int) = (z : Int) := IntWalk.i64_in _ (by omega)
  have hws : IntKind.i64.wrap (1 + (r : Int)) = (j : Int) := by rw [IntWalk.i64_in _ (by omega)]; omega
  have HJ3 := Lib.hid (And.intro hmod (And.intro hwn hws))
  have hj1 : 1 ≤ j := by omega
  have hj3 : j ≤ 3 := by omega
  have hkj : k + j = 5 := by rw [hr, hj] at hs; rw [← hKK.out]; exact hs
  have HKJ := Lib.hid (show IntKind.i64.wrap ((k : Int) + (j : Int)) = 5 from by rw [IntWalk.i64_in _ (by omega)]; omega)
  clear hmod hwn hws hj hr hs
  obtain ⟨L1, hL1⟩ : ∃ l : List Int, fromL n k A0 = l := ⟨_, rfl⟩
  have vL1 := Lib.hid (by rw [← hL1]; exact (VR.from n k A0 hn1) : VR n (k) L1)
  obtain ⟨lL1, hlL1⟩ : ∃ l, L1.length = l := ⟨_, rfl⟩
  have EL1 := Lib.hid hL1
  have ZL1 := Lib.hid hlL1
  clear hL1 hlL1
  obtain ⟨L2, hL2⟩ : ∃ l : List Int, fromL n k B0 = l := ⟨_, rfl⟩
  have vL2 := Lib.hid (by rw [← hL2]; exact (VR.from n k B0 hn1) : VR n (k) L2)
  obtain ⟨lL2, hlL2⟩ : ∃ l, L2.length = l := ⟨_, rfl⟩
  have EL2 := Lib.hid hL2
  have ZL2 := Lib.hid hlL2
  clear hL2 hlL2
  obtain ⟨L3, hL3⟩ : ∃ l : List Int, fromL n k C0 = l := ⟨_, rfl⟩
  have vL3 := Lib.hid (by rw [← hL3]; exact (VR.from n k C0 hn1) : VR n (k) L3)
  obtain ⟨lL3, hlL3⟩ : ∃ l, L3.length = l := ⟨_, rfl⟩
  have EL3 := Lib.hid hL3
  have ZL3 := Lib.hid hlL3
  clear hL3 hlL3
  obtain ⟨L4, hL4⟩ : ∃ l : List Int, fromL n j C0 = l := ⟨_, rfl⟩
  have vL4 := Lib.hid (by rw [← hL4]; exact VR.from n j C0 hn1 : VR n (j) L4)
  obtain ⟨lL4, hlL4⟩ : ∃ l, L4.length = l := ⟨_, rfl⟩
  have EL4 := Lib.hid hL4
  have ZL4 := Lib.hid hlL4
  clear hL4 hlL4
  obtain ⟨L5, hL5⟩ : ∃ l : List Int, uniq (joinP n (n ^ (j - 1)) (fromL n k A0) (fromL n j C0)) = l := ⟨_, rfl⟩
  have vL5 := Lib.hid (by rw [← hL5]; exact (by have h := VR.join (n := n) (k := k) (j := j) (A := fromL n k A0) (B := fromL n j C0) (by rw [EL1.out]; exact vL1.out) (by rw [EL4.out]; exact vL4.out) hn1 hk1 hj1; rw [show k + j - 2 = 3 by omega] at h; exact h) : VR n (3) L5)
  obtain ⟨lL5, hlL5⟩ : ∃ l, L5.length = l := ⟨_, rfl⟩
  have EL5 := Lib.hid hL5
  have ZL5 := Lib.hid hlL5
  clear hL5 hlL5
  obtain ⟨L6, hL6⟩ : ∃ l : List Int, fromL n 2 B0 = l := ⟨_, rfl⟩
  have vL6 := Lib.hid (by rw [← hL6]; exact VR.from n 2 B0 hn1 : VR n (2) L6)
  obtain ⟨lL6, hlL6⟩ : ∃ l, L6.length = l := ⟨_, rfl⟩
  have EL6 := Lib.hid hL6
  have ZL6 := Lib.hid hlL6
  clear hL6 hlL6
  obtain ⟨L7, hL7⟩ : ∃ l : List Int, unionL (fromL n k A0) (fromL n k B0) = l := ⟨_, rfl⟩
  have vL7 := Lib.hid (by rw [← hL7]; exact VR.union (by rw [EL1.out]; exact vL1.out) (by rw [EL2.out]; exact vL2.out) : VR n (k) L7)
  obtain ⟨lL7, hlL7⟩ : ∃ l, L7.length = l := ⟨_, rfl⟩
  have EL7 := Lib.hid hL7
  have ZL7 := Lib.hid hlL7
  clear hL7 hlL7
  obtain ⟨L8, hL8⟩ : ∃ l : List Int, interL (fromL n k A0) (fromL n k B0) = l := ⟨_, rfl⟩
  have vL8 := Lib.hid (by rw [← hL8]; exact VR.inter (by rw [EL1.out]; exact vL1.out) (by rw [EL2.out]; exact vL2.out) : VR n (k) L8)
  obtain ⟨lL8, hlL8⟩ : ∃ l, L8.length = l := ⟨_, rfl⟩
  have EL8 := Lib.hid hL8
  have ZL8 := Lib.hid hlL8
  clear hL8 hlL8
  obtain ⟨L9, hL9⟩ : ∃ l : List Int, diffL (fromL n k A0) (fromL n k B0) = l := ⟨_, rfl⟩
  have vL9 := Lib.hid (by rw [← hL9]; exact VR.diff (by rw [EL1.out]; exact vL1.out) (by rw [EL2.out]; exact vL2.out) : VR n (k) L9)
  obtain ⟨lL9, hlL9⟩ : ∃ l, L9.length = l := ⟨_, rfl⟩
  have EL9 := Lib.hid hL9
  have ZL9 := Lib.hid hlL9
  clear hL9 hlL9
  obtain ⟨L10, hL10⟩ : ∃ l : List Int, overL (n ^ (k - 1)) (fromL n k A0) (fromL n k B0) = l := ⟨_, rfl⟩
  have vL10 := Lib.hid (by rw [← hL10]; exact VR.over (by rw [EL1.out]; exact vL1.out) (by rw [EL2.out]; exact vL2.out) : VR n (k) L10)
  obtain ⟨lL10, hlL10⟩ : ∃ l, L10.length = l := ⟨_, rfl⟩
  have EL10 := Lib.hid hL10
  have ZL10 := Lib.hid hlL10
  clear hL10 hlL10
  obtain ⟨L11, hL11⟩ : ∃ l : List Int, uniq (turnL n (fromL n 2 B0)) = l := ⟨_, rfl⟩
  have vL11 := Lib.hid (by rw [← hL11]; exact VR.turn (by rw [EL6.out]; exact vL6.out) hn1 : VR n (2) L11)
  obtain ⟨lL11, hlL11⟩ : ∃ l, L11.length = l := ⟨_, rfl⟩
  have EL11 := Lib.hid hL11
  have ZL11 := Lib.hid hlL11
  clear hL11 hlL11
  obtain ⟨L12, hL12⟩ : ∃ l : List Int, uniq (closS n (fromL n 2 B0)) = l := ⟨_, rfl⟩
  have vL12 := Lib.hid (by rw [← hL12]; exact VR.clos (by rw [EL6.out]; exact vL6.out) : VR n (2) L12)
  obtain ⟨lL12, hlL12⟩ : ∃ l, L12.length = l := ⟨_, rfl⟩
  have EL12 := Lib.hid hL12
  have ZL12 := Lib.hid hlL12
  clear hL12 hlL12
  obtain ⟨L13, hL13⟩ : ∃ l : List Int, idenL n = l := ⟨_, rfl⟩
  have vL13 := Lib.hid (by rw [← hL13]; exact VR.iden n : VR n (2) L13)
  obtain ⟨lL13, hlL13⟩ : ∃ l, L13.length = l := ⟨_, rfl⟩
  have EL13 := Lib.hid hL13
  have ZL13 := Lib.hid hlL13
  clear hL13 hlL13
  obtain ⟨lA0, hlA0⟩ : ∃ l, A0.length = l := ⟨_, rfl⟩
  obtain ⟨lB0, hlB0⟩ : ∃ l, B0.length = l := ⟨_, rfl⟩
  obtain ⟨lC0, hlC0⟩ : ∃ l, C0.length = l := ⟨_, rfl⟩
  have ZA0 := Lib.hid hlA0; have ZB0 := Lib.hid hlB0; have ZC0 := Lib.hid hlC0
  rw [hlA0, hlB0, hlC0]
  clear hlA0 hlB0 hlC0
  have hg := World.grownBy_alloc W0 (.cells #[.int .u8 (N : Int), .int .u8 (Ar : Int), .slice aa lA0 ca, .slice ab lB0 cb, .slice ac lC0 cc] 24) none
  have hb0 : (W0.alloc (.cells #[.int .u8 (N : Int), .int .u8 (Ar : Int), .slice aa lA0 ca, .slice ab lB0 cb, .slice ac lC0 cc] 24)).cell? ⟨W0.heap.size, 0, none⟩ = some (.int .u8 (N : Int)) := by go_simp
  have hb1 : (W0.alloc (.cells #[.int .u8 (N : Int), .int .u8 (Ar : Int), .slice aa lA0 ca, .slice ab lB0 cb, .slice ac lC0 cc] 24)).cell? ⟨W0.heap.size, 1, none⟩ = some (.int .u8 (Ar : Int)) := by go_simp
  have hb2 : (W0.alloc (.cells #[.int .u8 (N : Int), .int .u8 (Ar : Int), .slice aa lA0 ca, .slice ab lB0 cb, .slice ac lC0 cc] 24)).cell? ⟨W0.heap.size, 2, none⟩ = some (.slice aa lA0 ca) := by go_simp
  have hb3 : (W0.alloc (.cells #[.int .u8 (N : Int), .int .u8 (Ar : Int), .slice aa lA0 ca, .slice ab lB0 cb, .slice ac lC0 cc] 24)).cell? ⟨W0.heap.size, 3, none⟩ = some (.slice ab lB0 cb) := by go_simp
  have hb4 : (W0.alloc (.cells #[.int .u8 (N : Int), .int .u8 (Ar : Int), .slice aa lA0 ca, .slice ab lB0 cb, .slice ac lC0 cc] 24)).cell? ⟨W0.heap.size, 4, none⟩ = some (.slice ac lC0 cc) := by go_simp
  obtain ⟨V0, hV0⟩ : ∃ V, W0.alloc (.cells #[.int .u8 (N : Int), .int .u8 (Ar : Int), .slice aa lA0 ca, .slice ab lB0 cb, .slice ac lC0 cc] 24) = V := ⟨_, rfl⟩
  rw [hV0] at hg hb0 hb1 hb2 hb3 hb4
  have HG := Lib.hid hg
  have HRB := Lib.hid (And.intro hb0 (And.intro hb1 (And.intro hb2 (And.intro hb3 hb4))))
  have HR := Lib.hid (h.grown hg)
  clear hg hb0 hb1 hb2 hb3 hb4 h
  go_enter Try.func4, Try.ntmps4
  have qr0 := HRB.out.1
  have qr1 := HRB.out.2.1
  have qr2 := HRB.out.2.2.1
  have qr3 := HRB.out.2.2.2.1
  have qr4 := HRB.out.2.2.2.2
  go_upto_region 1 with fail
  clear qr0 qr1 qr2 qr3 qr4
  clear hV0
  have qr0 := HRB.out.1
  have qr1 := HRB.out.2.1
  have qr2 := HRB.out.2.2.1
  have qr3 := HRB.out.2.2.2.1
  have qr4 := HRB.out.2.2.2.2
  go_wp2_with fail
  clear qr0 qr1 qr2 qr3 qr4
  refine (head_calls _).mono ?_
  rintro e V1 ⟨rfl, g⟩
  replace HRB := Lib.hid (And.intro (World.grownBy.cell g HRB.out.1 (by simp)) (And.intro (World.grownBy.cell g HRB.out.2.1 (by simp)) (And.intro (World.grownBy.cell g HRB.out.2.2.1 (by simp)) (And.intro (World.grownBy.cell g HRB.out.2.2.2.1 (by simp)) (World.grownBy.cell g HRB.out.2.2.2.2 (by simp))))))
  replace HR := Lib.hid (HR.out.grown g)
  replace HG := Lib.hid (World.grownBy.trans HG.out g)
  clear g
  have qr0 := HRB.out.1
  have qr1 := HRB.out.2.1
  have qr2 := HRB.out.2.2.1
  have qr3 := HRB.out.2.2.2.1
  have qr4 := HRB.out.2.2.2.2
  go_wp2_with fail
  clear qr0 qr1 qr2 qr3 qr4
  refine (threeV hNN.out hKK.out EL1.out EL2.out EL3.out ZA0.out ZB0.out ZC0.out ZL1.out ZL2.out ZL3.out _ HR.out).mono ?_
  rintro e V2 ⟨xa, xb, xc, ya, yb, yc, rfl, ia, ib, ic, g⟩
  replace HRB := Lib.hid (And.intro (World.grownBy.cell g HRB.out.1 (by simp)) (And.intro (World.grownBy.cell g HRB.out.2.1 (by simp)) (And.intro (World.grownBy.cell g HRB.out.2.2.1 (by simp)) (And.intro (World.grownBy.cell g HRB.out.2.2.2.1 (by simp)) (World.grownBy.cell g HRB.out.2.2.2.2 (by simp))))))
  replace HR := Lib.hid (HR.out.grown g)
  replace HG := Lib.hid (World.grownBy.trans HG.out g)
  clear g
  have Ha := Lib.hid ia; have Hb := Lib.hid ib; have Hc := Lib.hid ic
  clear ia ib ic
  have qr0 := HRB.out.1
  have qr1 := HRB.out.2.1
  have qr2 := HRB.out.2.2.1
  have qr3 := HRB.out.2.2.2.1
  have qr4 := HRB.out.2.2.2.2
  go_upto_region 3 with fail
  clear qr0 qr1 qr2 qr3 qr4
  have hs6 := (Six.new V2 (.int .i64 ((k : Nat) : Int)) (.slice xa lL1 ya) (.int .i64 ((k : Nat) : Int)) (.slice xb lL2 yb) (.int .i64 ((k : Nat) : Int)) (.slice xc lL3 yc) 29).1
  have g := World.grownBy_alloc V2 (.cells #[.int .i64 ((k : Nat) : Int), .slice xa lL1 ya, .int .i64 ((k : Nat) : Int), .slice xb lL2 yb, .int .i64 ((k : Nat) : Int), .slice xc lL3 yc] 29) none
  obtain ⟨V3, hV3⟩ : ∃ z, World.alloc V2 (.cells #[.int .i64 ((k : Nat) : Int), .slice xa lL1 ya, .int .i64 ((k : Nat) : Int), .slice xb lL2 yb, .int .i64 ((k : Nat) : Int), .slice xc lL3 yc] 29) = z := ⟨_, rfl⟩
  rw [hV3] at g hs6 ⊢
  clear hV3
  obtain ⟨bT, hb⟩ : ∃ b, V2.heap.size = b := ⟨_, rfl⟩
  rw [hb] at hs6 ⊢
  clear hb
  replace Ha := Lib.hid (Ha.out.grown g)
  replace Hb := Lib.hid (Hb.out.grown g)
  replace Hc := Lib.hid (Hc.out.grown g)
  replace HRB := Lib.hid (And.intro (World.grownBy.cell g HRB.out.1 (by simp)) (And.intro (World.grownBy.cell g HRB.out.2.1 (by simp)) (And.intro (World.grownBy.cell g HRB.out.2.2.1 (by simp)) (And.intro (World.grownBy.cell g HRB.out.2.2.2.1 (by simp)) (World.grownBy.cell g HRB.out.2.2.2.2 (by simp))))))
  replace HR := Lib.hid (HR.out.grown g)
  replace HG := Lib.hid (World.grownBy.trans HG.out g)
  clear g
  have HT := Lib.hid hs6
  clear hs6
  have qr0 := HRB.out.1
  have qr1 := HRB.out.2.1
  have qr2 := HRB.out.2.2.1
  have qr3 := HRB.out.2.2.2.1
  have qr4 := HRB.out.2.2.2.2
  have t0 := HT.out.1
  have t1 := HT.out.2.1
  have t2 := HT.out.2.2.1
  have t3 := HT.out.2.2.2.1
  have t4 := HT.out.2.2.2.2.1
  have t5 := HT.out.2.2.2.2.2
  go_upto_region 4 with fail
  clear qr0 qr1 qr2 qr3 qr4 t0 t1 t2 t3 t4 t5
  have hbx := one_cells V3 (.int .i64 (k : Nat)) (.slice xa lL1 ya) 27
  have g := World.grownBy_alloc V3 (.cells #[.int .i64 (k : Nat), .slice xa lL1 ya] 27) none
  obtain ⟨V4, hV4⟩ : ∃ z, World.alloc V3 (.cells #[.int .i64 (k : Nat), .slice xa lL1 ya] 27) = z := ⟨_, rfl⟩
  rw [hV4] at g hbx ⊢
  clear hV4
  obtain ⟨bB8, hb⟩ : ∃ b, V3.heap.size = b := ⟨_, rfl⟩
  rw [hb] at hbx ⊢
  clear hb
  replace Ha := Lib.hid (Ha.out.grown g)
  replace Hb := Lib.hid (Hb.out.grown g)
  replace Hc := Lib.hid (Hc.out.grown g)
  replace HRB := Lib.hid (And.intro (World.grownBy.cell g HRB.out.1 (by simp)) (And.intro (World.grownBy.cell g HRB.out.2.1 (by simp)) (And.intro (World.grownBy.cell g HRB.out.2.2.1 (by simp)) (And.intro (World.grownBy.cell g HRB.out.2.2.2.1 (by simp)) (World.grownBy.cell g HRB.out.2.2.2.2 (by simp))))))
  replace HR := Lib.hid (HR.out.grown g)
  replace HT := Lib.hid (And.intro (World.grownBy.cell g HT.out.1 (by simp)) (And.intro (World.grownBy.cell g HT.out.2.1 (by simp)) (And.intro (World.grownBy.cell g HT.out.2.2.1 (by simp)) (And.intro (World.grownBy.cell g HT.out.2.2.2.1 (by simp)) (And.intro (World.grownBy.cell g HT.out.2.2.2.2.1 (by simp)) (World.grownBy.cell g HT.out.2.2.2.2.2 (by simp)))))))
  replace HG := Lib.hid (World.grownBy.trans HG.out g)
  clear g
  have HB8 := Lib.hid (And.intro hbx.2.1 hbx.2.2.1)
  clear hbx
  have qB80 := HB8.out.1
  have qB81 := HB8.out.2
  have qr0 := HRB.out.1
  have qr1 := HRB.out.2.1
  have qr2 := HRB.out.2.2.1
  have qr3 := HRB.out.2.2.2.1
  have qr4 := HRB.out.2.2.2.2
  have t0 := HT.out.1
  have t1 := HT.out.2.1
  have t2 := HT.out.2.2.1
  have t3 := HT.out.2.2.2.1
  have t4 := HT.out.2.2.2.2.1
  have t5 := HT.out.2.2.2.2.2
  go_upto_region 5 with fail
  clear qB80 qB81 qr0 qr1 qr2 qr3 qr4 t0 t1 t2 t3 t4 t5
  have hbx := one_cells V4 (.int .i64 (k : Nat)) (.slice xb lL2 yb) 27
  have g := World.grownBy_alloc V4 (.cells #[.int .i64 (k : Nat), .slice xb lL2 yb] 27) none
  obtain ⟨V5, hV5⟩ : ∃ z, World.alloc V4 (.cells #[.int .i64 (k : Nat), .slice xb lL2 yb] 27) = z := ⟨_, rfl⟩
  rw [hV5] at g hbx ⊢
  clear hV5
  obtain ⟨bB9, hb⟩ : ∃ b, V4.heap.size = b := ⟨_, rfl⟩
  rw [hb] at hbx ⊢
  clear hb
  replace Ha := Lib.hid (Ha.out.grown g)
  replace Hb := Lib.hid (Hb.out.grown g)
  replace Hc := Lib.hid (Hc.out.grown g)
  replace HB8 := Lib.hid (And.intro (World.grownBy.cell g HB8.out.1 (by simp)) (World.grownBy.cell g HB8.out.2 (by simp)))
  replace HRB := Lib.hid (And.intro (World.grownBy.cell g HRB.out.1 (by simp)) (And.intro (World.grownBy.cell g HRB.out.2.1 (by simp)) (And.intro (World.grownBy.cell g HRB.out.2.2.1 (by simp)) (And.intro (World.grownBy.cell g HRB.out.2.2.2.1 (by simp)) (World.grownBy.cell g HRB.out.2.2.2.2 (by simp))))))
  replace HR := Lib.hid (HR.out.grown g)
  replace HT := Lib.hid (And.intro (World.grownBy.cell g HT.out.1 (by simp)) (And.intro (World.grownBy.cell g HT.out.2.1 (by simp)) (And.intro (World.grownBy.cell g HT.out.2.2.1 (by simp)) (And.intro (World.grownBy.cell g HT.out.2.2.2.1 (by simp)) (And.intro (World.grownBy.cell g HT.out.2.2.2.2.1 (by simp)) (World.grownBy.cell g HT.out.2.2.2.2.2 (by simp)))))))
  replace HG := Lib.hid (World.grownBy.trans HG.out g)
  clear g
  have HB9 := Lib.hid (And.intro hbx.2.1 hbx.2.2.1)
  clear hbx
  clear HT
  have hmod := HJ3.out.1
  have hwn := HJ3.out.2.1
  have hws := HJ3.out.2.2
  have qB80 := HB8.out.1
  have qB81 := HB8.out.2
  have qB90 := HB9.out.1
  have qB91 := HB9.out.2
  have qr0 := HRB.out.1
  have qr1 := HRB.out.2.1
  have qr2 := HRB.out.2.2.1
  have qr3 := HRB.out.2.2.2.1
  have qr4 := HRB.out.2.2.2.2
  go_wp2_with fail
  clear qB80 qB81 qB90 qB91 qr0 qr1 qr2 qr3 qr4
  refine (fromV (n := n) (k := j) hn1 hn5 hj3 HR.out.lC EL4.out ZC0.out ZL4.out _ _ _ HR.out.hC).mono ?_
  rintro e V6 ⟨xcj, ycj, rfl, hr, g⟩
  replace Ha := Lib.hid (Ha.out.grown g)
  replace Hb := Lib.hid (Hb.out.grown g)
  replace Hc := Lib.hid (Hc.out.grown g)
  replace HB8 := Lib.hid (And.intro (World.grownBy.cell g HB8.out.1 (by simp)) (World.grownBy.cell g HB8.out.2 (by simp)))
  replace HB9 := Lib.hid (And.intro (World.grownBy.cell g HB9.out.1 (by simp)) (World.grownBy.cell g HB9.out.2 (by simp)))
  replace HRB := Lib.hid (And.intro (World.grownBy.cell g HRB.out.1 (by simp)) (And.intro (World.grownBy.cell g HRB.out.2.1 (by simp)) (And.intro (World.grownBy.cell g HRB.out.2.2.1 (by simp)) (And.intro (World.grownBy.cell g HRB.out.2.2.2.1 (by simp)) (World.grownBy.cell g HRB.out.2.2.2.2 (by simp))))))
  replace HR := Lib.hid (HR.out.grown g)
  replace HG := Lib.hid (World.grownBy.trans HG.out g)
  clear g
  have Hcj := Lib.hid hr
  clear hr
  have qB80 := HB8.out.1
  have qB81 := HB8.out.2
  have qB90 := HB9.out.1
  have qB91 := HB9.out.2
  have qr0 := HRB.out.1
  have qr1 := HRB.out.2.1
  have qr2 := HRB.out.2.2.1
  have qr3 := HRB.out.2.2.2.1
  have qr4 := HRB.out.2.2.2.2
  go_upto_region 6 with fail
  clear qB80 qB81 qB90 qB91 qr0 qr1 qr2 qr3 qr4
  have hbx := one_cells V6 (.int .i64 (j : Nat)) (.slice xcj lL4 ycj) 27
  have g := World.grownBy_alloc V6 (.cells #[.int .i64 (j : Nat), .slice xcj lL4 ycj] 27) none
  obtain ⟨V7, hV7⟩ : ∃ z, World.alloc V6 (.cells #[.int .i64 (j : Nat), .slice xcj lL4 ycj] 27) = z := ⟨_, rfl⟩
  rw [hV7] at g hbx ⊢
  clear hV7
  obtain ⟨bB10, hb⟩ : ∃ b, V6.heap.size = b := ⟨_, rfl⟩
  rw [hb] at hbx ⊢
  clear hb
  replace Ha := Lib.hid (Ha.out.grown g)
  replace Hb := Lib.hid (Hb.out.grown g)
  replace Hc := Lib.hid (Hc.out.grown g)
  replace Hcj := Lib.hid (Hcj.out.grown g)
  replace HB8 := Lib.hid (And.intro (World.grownBy.cell g HB8.out.1 (by simp)) (World.grownBy.cell g HB8.out.2 (by simp)))
  replace HB9 := Lib.hid (And.intro (World.grownBy.cell g HB9.out.1 (by simp)) (World.grownBy.cell g HB9.out.2 (by simp)))
  replace HRB := Lib.hid (And.intro (World.grownBy.cell g HRB.out.1 (by simp)) (And.intro (World.grownBy.cell g HRB.out.2.1 (by simp)) (And.intro (World.grownBy.cell g HRB.out.2.2.1 (by simp)) (And.intro (World.grownBy.cell g HRB.out.2.2.2.1 (by simp)) (World.grownBy.cell g HRB.out.2.2.2.2 (by simp))))))
  replace HR := Lib.hid (HR.out.grown g)
  replace HG := Lib.hid (World.grownBy.trans HG.out g)
  clear g
  have HB10 := Lib.hid (And.intro hbx.2.1 hbx.2.2.1)
  clear hbx
  clear hmod hwn hws
  have qB80 := HB8.out.1
  have qB81 := HB8.out.2
  have qB90 := HB9.out.1
  have qB91 := HB9.out.2
  have qB100 := HB10.out.1
  have qB101 := HB10.out.2
  have qr0 := HRB.out.1
  have qr1 := HRB.out.2.1
  have qr2 := HRB.out.2.2.1
  have qr3 := HRB.out.2.2.2.1
  have qr4 := HRB.out.2.2.2.2
  go_wp2_with fail
  clear qB80 qB81 qB90 qB91 qB100 qB101 qr0 qr1 qr2 qr3 qr4
  refine (prodOdd (n := n) (k := k) (j := j) (A := L1) (B := L4) (by omega) hk3 hj3 ZL1.out ZL4.out _ _ _ _ _).mono ?_
  rintro e V8 ⟨rfl, g⟩
  replace Ha := Lib.hid (Ha.out.grown g)
  replace Hb := Lib.hid (Hb.out.grown g)
  replace Hc := Lib.hid (Hc.out.grown g)
  replace Hcj := Lib.hid (Hcj.out.grown g)
  replace HB8 := Lib.hid (And.intro (World.grownBy.cell g HB8.out.1 (by simp)) (World.grownBy.cell g HB8.out.2 (by simp)))
  replace HB9 := Lib.hid (And.intro (World.grownBy.cell g HB9.out.1 (by simp)) (World.grownBy.cell g HB9.out.2 (by simp)))
  replace HB10 := Lib.hid (And.intro (World.grownBy.cell g HB10.out.1 (by simp)) (World.grownBy.cell g HB10.out.2 (by simp)))
  replace HRB := Lib.hid (And.intro (World.grownBy.cell g HRB.out.1 (by simp)) (And.intro (World.grownBy.cell g HRB.out.2.1 (by simp)) (And.intro (World.grownBy.cell g HRB.out.2.2.1 (by simp)) (And.intro (World.grownBy.cell g HRB.out.2.2.2.1 (by simp)) (World.grownBy.cell g HRB.out.2.2.2.2 (by simp))))))
  replace HR := Lib.hid (HR.out.grown g)
  replace HG := Lib.hid (World.grownBy.trans HG.out g)
  clear g
  have qB80 := HB8.out.1
  have qB81 := HB8.out.2
  have qB90 := HB9.out.1
  have qB91 := HB9.out.2
  have qB100 := HB10.out.1
  have qB101 := HB10.out.2
  have qr0 := HRB.out.1
  have qr1 := HRB.out.2.1
  have qr2 := HRB.out.2.2.1
  have qr3 := HRB.out.2.2.2.1
  have qr4 := HRB.out.2.2.2.2
  go_upto_region 7 with fail
  clear qB80 qB81 qB90 qB91 qB100 qB101 qr0 qr1 qr2 qr3 qr4
  have hbx := one_cells V8 (.int .i64 0) (.slice none 0 0) 27
  have g := World.grownBy_alloc V8 (.cells #[.int .i64 0, .slice none 0 0] 27) none
  obtain ⟨V9, hV9⟩ : ∃ z, World.alloc V8 (.cells #[.int .i64 0, .slice none 0 0] 27) = z := ⟨_, rfl⟩
  rw [hV9] at g hbx ⊢
  clear hV9
  obtain ⟨bB11, hb⟩ : ∃ b, V8.heap.size = b := ⟨_, rfl⟩
  rw [hb] at hbx ⊢
  clear hb
  replace Ha := Lib.hid (Ha.out.grown g)
  replace Hb := Lib.hid (Hb.out.grown g)
  replace Hc := Lib.hid (Hc.out.grown g)
  replace Hcj := Lib.hid (Hcj.out.grown g)
  replace HB8 := Lib.hid (And.intro (World.grownBy.cell g HB8.out.1 (by simp)) (World.grownBy.cell g HB8.out.2 (by simp)))
  replace HB9 := Lib.hid (And.intro (World.grownBy.cell g HB9.out.1 (by simp)) (World.grownBy.cell g HB9.out.2 (by simp)))
  replace HB10 := Lib.hid (And.intro (World.grownBy.cell g HB10.out.1 (by simp)) (World.grownBy.cell g HB10.out.2 (by simp)))
  replace HRB := Lib.hid (And.intro (World.grownBy.cell g HRB.out.1 (by simp)) (And.intro (World.grownBy.cell g HRB.out.2.1 (by simp)) (And.intro (World.grownBy.cell g HRB.out.2.2.1 (by simp)) (And.intro (World.grownBy.cell g HRB.out.2.2.2.1 (by simp)) (World.grownBy.cell g HRB.out.2.2.2.2 (by simp))))))
  replace HR := Lib.hid (HR.out.grown g)
  replace HG := Lib.hid (World.grownBy.trans HG.out g)
  clear g
  have HB11 := Lib.hid (And.intro hbx.2.1 hbx.2.2.1)
  clear hbx
  have qB80 := HB8.out.1
  have qB81 := HB8.out.2
  have qB90 := HB9.out.1
  have qB91 := HB9.out.2
  have qB100 := HB10.out.1
  have qB101 := HB10.out.2
  have qB110 := HB11.out.1
  have qB111 := HB11.out.2
  have qr0 := HRB.out.1
  have qr1 := HRB.out.2.1
  have qr2 := HRB.out.2.2.1
  have qr3 := HRB.out.2.2.2.1
  have qr4 := HRB.out.2.2.2.2
  go_wp2_with fail
  clear qB80 qB81 qB90 qB91 qB100 qB101 qB110 qB111 qr0 qr1 qr2 qr3 qr4
  refine (joinV (k := k) (j := j) 3 (by omega) vL1.out vL4.out hn1 hn5 hk1 hk3 hj1 hj3 (by omega) (by omega) (by rw [← EL1.out, ← EL4.out]; exact EL5.out) ZL1.out ZL4.out ZL5.out _ _ _ _ _ Ha.out Hcj.out).mono ?_
  rintro e V10 ⟨xr2, yr2, rfl, hr, g⟩
  replace Ha := Lib.hid (Ha.out.grown g)
  replace Hb := Lib.hid (Hb.out.grown g)
  replace Hc := Lib.hid (Hc.out.grown g)
  replace Hcj := Lib.hid (Hcj.out.grown g)
  replace HB8 := Lib.hid (And.intro (World.grownBy.cell g HB8.out.1 (by simp)) (World.grownBy.cell g HB8.out.2 (by simp)))
  replace HB9 := Lib.hid (And.intro (World.grownBy.cell g HB9.out.1 (by simp)) (World.grownBy.cell g HB9.out.2 (by simp)))
  replace HB10 := Lib.hid (And.intro (World.grownBy.cell g HB10.out.1 (by simp)) (World.grownBy.cell g HB10.out.2 (by simp)))
  replace HB11 := Lib.hid (And.intro (World.grownBy.cell g HB11.out.1 (by simp)) (World.grownBy.cell g HB11.out.2 (by simp)))
  replace HRB := Lib.hid (And.intro (World.grownBy.cell g HRB.out.1 (by simp)) (And.intro (World.grownBy.cell g HRB.out.2.1 (by simp)) (And.intro (World.grownBy.cell g HRB.out.2.2.1 (by simp)) (And.intro (World.grownBy.cell g HRB.out.2.2.2.1 (by simp)) (World.grownBy.cell g HRB.out.2.2.2.2 (by simp))))))
  replace HR := Lib.hid (HR.out.grown g)
  replace HG := Lib.hid (World.grownBy.trans HG.out g)
  clear g
  have Hr2 := Lib.hid hr
  clear hr
  have qB80 := HB8.out.1
  have qB81 := HB8.out.2
  have qB90 := HB9.out.1
  have qB91 := HB9.out.2
  have qB100 := HB10.out.1
  have qB101 := HB10.out.2
  have qB110 := HB11.out.1
  have qB111 := HB11.out.2
  have qr0 := HRB.out.1
  have qr1 := HRB.out.2.1
  have qr2 := HRB.out.2.2.1
  have qr3 := HRB.out.2.2.2.1
  have qr4 := HRB.out.2.2.2.2
  go_upto_region 8 with fail
  clear qB80 qB81 qB90 qB91 qB100 qB101 qB110 qB111 qr0 qr1 qr2 qr3 qr4
  have hbx := one_cells V10 (.int .i64 3) (.slice xr2 lL5 yr2) 27
  have g := World.grownBy_alloc V10 (.cells #[.int .i64 3, .slice xr2 lL5 yr2] 27) none
  obtain ⟨V11, hV11⟩ : ∃ z, World.alloc V10 (.cells #[.int .i64 3, .slice xr2 lL5 yr2] 27) = z := ⟨_, rfl⟩
  rw [hV11] at g hbx ⊢
  clear hV11
  obtain ⟨bB13, hb⟩ : ∃ b, V10.heap.size = b := ⟨_, rfl⟩
  rw [hb] at hbx ⊢
  clear hb
  replace Ha := Lib.hid (Ha.out.grown g)
  replace Hb := Lib.hid (Hb.out.grown g)
  replace Hc := Lib.hid (Hc.out.grown g)
  replace Hcj := Lib.hid (Hcj.out.grown g)
  replace Hr2 := Lib.hid (Hr2.out.grown g)
  replace HB8 := Lib.hid (And.intro (World.grownBy.cell g HB8.out.1 (by simp)) (World.grownBy.cell g HB8.out.2 (by simp)))
  replace HB9 := Lib.hid (And.intro (World.grownBy.cell g HB9.out.1 (by simp)) (World.grownBy.cell g HB9.out.2 (by simp)))
  replace HB10 := Lib.hid (And.intro (World.grownBy.cell g HB10.out.1 (by simp)) (World.grownBy.cell g HB10.out.2 (by simp)))
  replace HB11 := Lib.hid (And.intro (World.grownBy.cell g HB11.out.1 (by simp)) (World.grownBy.cell g HB11.out.2 (by simp)))
  replace HRB := Lib.hid (And.intro (World.grownBy.cell g HRB.out.1 (by simp)) (And.intro (World.grownBy.cell g HRB.out.2.1 (by simp)) (And.intro (World.grownBy.cell g HRB.out.2.2.1 (by simp)) (And.intro (World.grownBy.cell g HRB.out.2.2.2.1 (by simp)) (World.grownBy.cell g HRB.out.2.2.2.2 (by simp))))))
  replace HR := Lib.hid (HR.out.grown g)
  replace HG := Lib.hid (World.grownBy.trans HG.out g)
  clear g
  have HB13 := Lib.hid (And.intro hbx.2.1 hbx.2.2.1)
  clear hbx
  have hkjw := HKJ.out
  have qB80 := HB8.out.1
  have qB81 := HB8.out.2
  have qB90 := HB9.out.1
  have qB91 := HB9.out.2
  have qB100 := HB10.out.1
  have qB101 := HB10.out.2
  have qB110 := HB11.out.1
  have qB111 := HB11.out.2
  have qB130 := HB13.out.1
  have qB131 := HB13.out.2
  have qr0 := HRB.out.1
  have qr1 := HRB.out.2.1
  have qr2 := HRB.out.2.2.1
  have qr3 := HRB.out.2.2.2.1
  have qr4 := HRB.out.2.2.2.2
  go_upto_region 10 with fail
  clear qB80 qB81 qB90 qB91 qB100 qB101 qB110 qB111 qB130 qB131 qr0 qr1 qr2 qr3 qr4
  clear hkjw
  have qB80 := HB8.out.1
  have qB81 := HB8.out.2
  have qB90 := HB9.out.1
  have qB91 := HB9.out.2
  have qB100 := HB10.out.1
  have qB101 := HB10.out.2
  have qB110 := HB11.out.1
  have qB111 := HB11.out.2
  have qB130 := HB13.out.1
  have qB131 := HB13.out.2
  have qr0 := HRB.out.1
  have qr1 := HRB.out.2.1
  have qr2 := HRB.out.2.2.1
  have qr3 := HRB.out.2.2.2.1
  have qr4 := HRB.out.2.2.2.2
  go_wp2_with fail
  clear qB80 qB81 qB90 qB91 qB100 qB101 qB110 qB111 qB130 qB131 qr0 qr1 qr2 qr3 qr4
  refine (validV (k := 3) vL5.out hn5 (by omega) (by omega) ZL5.out _ _ _ Hr2.out).mono ?_
  rintro e V12 ⟨rfl, g⟩
  replace Ha := Lib.hid (Ha.out.grown g)
  replace Hb := Lib.hid (Hb.out.grown g)
  replace Hc := Lib.hid (Hc.out.grown g)
  replace Hcj := Lib.hid (Hcj.out.grown g)
  replace Hr2 := Lib.hid (Hr2.out.grown g)
  replace HB8 := Lib.hid (And.intro (World.grownBy.cell g HB8.out.1 (by simp)) (World.grownBy.cell g HB8.out.2 (by simp)))
  replace HB9 := Lib.hid (And.intro (World.grownBy.cell g HB9.out.1 (by simp)) (World.grownBy.cell g HB9.out.2 (by simp)))
  replace HB10 := Lib.hid (And.intro (World.grownBy.cell g HB10.out.1 (by simp)) (World.grownBy.cell g HB10.out.2 (by simp)))
  replace HB11 := Lib.hid (And.intro (World.grownBy.cell g HB11.out.1 (by simp)) (World.grownBy.cell g HB11.out.2 (by simp)))
  replace HB13 := Lib.hid (And.intro (World.grownBy.cell g HB13.out.1 (by simp)) (World.grownBy.cell g HB13.out.2 (by simp)))
  replace HRB := Lib.hid (And.intro (World.grownBy.cell g HRB.out.1 (by simp)) (And.intro (World.grownBy.cell g HRB.out.2.1 (by simp)) (And.intro (World.grownBy.cell g HRB.out.2.2.1 (by simp)) (And.intro (World.grownBy.cell g HRB.out.2.2.2.1 (by simp)) (World.grownBy.cell g HRB.out.2.2.2.2 (by simp))))))
  replace HR := Lib.hid (HR.out.grown g)
  replace HG := Lib.hid (World.grownBy.trans HG.out g)
  clear g
  have qB80 := HB8.out.1
  have qB81 := HB8.out.2
  have qB90 := HB9.out.1
  have qB91 := HB9.out.2
  have qB100 := HB10.out.1
  have qB101 := HB10.out.2
  have qB110 := HB11.out.1
  have qB111 := HB11.out.2
  have qB130 := HB13.out.1
  have qB131 := HB13.out.2
  have qr0 := HRB.out.1
  have qr1 := HRB.out.2.1
  have qr2 := HRB.out.2.2.1
  have qr3 := HRB.out.2.2.2.1
  have qr4 := HRB.out.2.2.2.2
  go_upto_region 12 with fail
  clear qB80 qB81 qB90 qB91 qB100 qB101 qB110 qB111 qB130 qB131 qr0 qr1 qr2 qr3 qr4
  have qB80 := HB8.out.1
  have qB81 := HB8.out.2
  have qB90 := HB9.out.1
  have qB91 := HB9.out.2
  have qB100 := HB10.out.1
  have qB101 := HB10.out.2
  have qB110 := HB11.out.1
  have qB111 := HB11.out.2
  have qB130 := HB13.out.1
  have qB131 := HB13.out.2
  have qr0 := HRB.out.1
  have qr1 := HRB.out.2.1
  have qr2 := HRB.out.2.2.1
  have qr3 := HRB.out.2.2.2.1
  have qr4 := HRB.out.2.2.2.2
  go_wp2_with fail
  clear qB80 qB81 qB90 qB91 qB100 qB101 qB110 qB111 qB130 qB131 qr0 qr1 qr2 qr3 qr4
  refine (fromV (n := n) (k := 2) hn1 hn5 (by omega) HR.out.lB EL6.out ZB0.out ZL6.out _ _ _ HR.out.hB).mono ?_
  rintro e V13 ⟨xb2, yb2, rfl, hr, g⟩
  replace Ha := Lib.hid (Ha.out.grown g)
  replace Hb := Lib.hid (Hb.out.grown g)
  replace Hc := Lib.hid (Hc.out.grown g)
  replace Hcj := Lib.hid (Hcj.out.grown g)
  replace Hr2 := Lib.hid (Hr2.out.grown g)
  replace HB8 := Lib.hid (And.intro (World.grownBy.cell g HB8.out.1 (by simp)) (World.grownBy.cell g HB8.out.2 (by simp)))
  replace HB9 := Lib.hid (And.intro (World.grownBy.cell g HB9.out.1 (by simp)) (World.grownBy.cell g HB9.out.2 (by simp)))
  replace HB10 := Lib.hid (And.intro (World.grownBy.cell g HB10.out.1 (by simp)) (World.grownBy.cell g HB10.out.2 (by simp)))
  replace HB11 := Lib.hid (And.intro (World.grownBy.cell g HB11.out.1 (by simp)) (World.grownBy.cell g HB11.out.2 (by simp)))
  replace HB13 := Lib.hid (And.intro (World.grownBy.cell g HB13.out.1 (by simp)) (World.grownBy.cell g HB13.out.2 (by simp)))
  replace HRB := Lib.hid (And.intro (World.grownBy.cell g HRB.out.1 (by simp)) (And.intro (World.grownBy.cell g HRB.out.2.1 (by simp)) (And.intro (World.grownBy.cell g HRB.out.2.2.1 (by simp)) (And.intro (World.grownBy.cell g HRB.out.2.2.2.1 (by simp)) (World.grownBy.cell g HRB.out.2.2.2.2 (by simp))))))
  replace HR := Lib.hid (HR.out.grown g)
  replace HG := Lib.hid (World.grownBy.trans HG.out g)
  clear g
  have Hb2 := Lib.hid hr
  clear hr
  have qB80 := HB8.out.1
  have qB81 := HB8.out.2
  have qB90 := HB9.out.1
  have qB91 := HB9.out.2
  have qB100 := HB10.out.1
  have qB101 := HB10.out.2
  have qB110 := HB11.out.1
  have qB111 := HB11.out.2
  have qB130 := HB13.out.1
  have qB131 := HB13.out.2
  have qr0 := HRB.out.1
  have qr1 := HRB.out.2.1
  have qr2 := HRB.out.2.2.1
  have qr3 := HRB.out.2.2.2.1
  have qr4 := HRB.out.2.2.2.2
  go_upto_region 13 with fail
  clear qB80 qB81 qB90 qB91 qB100 qB101 qB110 qB111 qB130 qB131 qr0 qr1 qr2 qr3 qr4
  have hbx := one_cells V13 (.int .i64 2) (.slice xb2 lL6 yb2) 27
  have g := World.grownBy_alloc V13 (.cells #[.int .i64 2, .slice xb2 lL6 yb2] 27) none
  obtain ⟨V14, hV14⟩ : ∃ z, World.alloc V13 (.cells #[.int .i64 2, .slice xb2 lL6 yb2] 27) = z := ⟨_, rfl⟩
  rw [hV14] at g hbx ⊢
  clear hV14
  obtain ⟨bB15, hb⟩ : ∃ b, V13.heap.size = b := ⟨_, rfl⟩
  rw [hb] at hbx ⊢
  clear hb
  replace Ha := Lib.hid (Ha.out.grown g)
  replace Hb := Lib.hid (Hb.out.grown g)
  replace Hc := Lib.hid (Hc.out.grown g)
  replace Hcj := Lib.hid (Hcj.out.grown g)
  replace Hr2 := Lib.hid (Hr2.out.grown g)
  replace Hb2 := Lib.hid (Hb2.out.grown g)
  replace HB8 := Lib.hid (And.intro (World.grownBy.cell g HB8.out.1 (by simp)) (World.grownBy.cell g HB8.out.2 (by simp)))
  replace HB9 := Lib.hid (And.intro (World.grownBy.cell g HB9.out.1 (by simp)) (World.grownBy.cell g HB9.out.2 (by simp)))
  replace HB10 := Lib.hid (And.intro (World.grownBy.cell g HB10.out.1 (by simp)) (World.grownBy.cell g HB10.out.2 (by simp)))
  replace HB11 := Lib.hid (And.intro (World.grownBy.cell g HB11.out.1 (by simp)) (World.grownBy.cell g HB11.out.2 (by simp)))
  replace HB13 := Lib.hid (And.intro (World.grownBy.cell g HB13.out.1 (by simp)) (World.grownBy.cell g HB13.out.2 (by simp)))
  replace HRB := Lib.hid (And.intro (World.grownBy.cell g HRB.out.1 (by simp)) (And.intro (World.grownBy.cell g HRB.out.2.1 (by simp)) (And.intro (World.grownBy.cell g HRB.out.2.2.1 (by simp)) (And.intro (World.grownBy.cell g HRB.out.2.2.2.1 (by simp)) (World.grownBy.cell g HRB.out.2.2.2.2 (by simp))))))
  replace HR := Lib.hid (HR.out.grown g)
  replace HG := Lib.hid (World.grownBy.trans HG.out g)
  clear g
  have HB15 := Lib.hid (And.intro hbx.2.1 hbx.2.2.1)
  clear hbx
  have qB80 := HB8.out.1
  have qB81 := HB8.out.2
  have qB90 := HB9.out.1
  have qB91 := HB9.out.2
  have qB100 := HB10.out.1
  have qB101 := HB10.out.2
  have qB110 := HB11.out.1
  have qB111 := HB11.out.2
  have qB130 := HB13.out.1
  have qB131 := HB13.out.2
  have qB150 := HB15.out.1
  have qB151 := HB15.out.2
  have qr0 := HRB.out.1
  have qr1 := HRB.out.2.1
  have qr2 := HRB.out.2.2.1
  have qr3 := HRB.out.2.2.2.1
  have qr4 := HRB.out.2.2.2.2
  go_wp2_with fail
  clear qB80 qB81 qB90 qB91 qB100 qB101 qB110 qB111 qB130 qB131 qB150 qB151 qr0 qr1 qr2 qr3 qr4
  refine (validV (k := k) vL1.out hn5 hk1 hk3 ZL1.out _ _ _ Ha.out).mono ?_
  rintro e V15 ⟨rfl, g⟩
  replace Ha := Lib.hid (Ha.out.grown g)
  replace Hb := Lib.hid (Hb.out.grown g)
  replace Hc := Lib.hid (Hc.out.grown g)
  replace Hcj := Lib.hid (Hcj.out.grown g)
  replace Hr2 := Lib.hid (Hr2.out.grown g)
  replace Hb2 := Lib.hid (Hb2.out.grown g)
  replace HB8 := Lib.hid (And.intro (World.grownBy.cell g HB8.out.1 (by simp)) (World.grownBy.cell g HB8.out.2 (by simp)))
  replace HB9 := Lib.hid (And.intro (World.grownBy.cell g HB9.out.1 (by simp)) (World.grownBy.cell g HB9.out.2 (by simp)))
  replace HB10 := Lib.hid (And.intro (World.grownBy.cell g HB10.out.1 (by simp)) (World.grownBy.cell g HB10.out.2 (by simp)))
  replace HB11 := Lib.hid (And.intro (World.grownBy.cell g HB11.out.1 (by simp)) (World.grownBy.cell g HB11.out.2 (by simp)))
  replace HB13 := Lib.hid (And.intro (World.grownBy.cell g HB13.out.1 (by simp)) (World.grownBy.cell g HB13.out.2 (by simp)))
  replace HB15 := Lib.hid (And.intro (World.grownBy.cell g HB15.out.1 (by simp)) (World.grownBy.cell g HB15.out.2 (by simp)))
  replace HRB := Lib.hid (And.intro (World.grownBy.cell g HRB.out.1 (by simp)) (And.intro (World.grownBy.cell g HRB.out.2.1 (by simp)) (And.intro (World.grownBy.cell g HRB.out.2.2.1 (by simp)) (And.intro (World.grownBy.cell g HRB.out.2.2.2.1 (by simp)) (World.grownBy.cell g HRB.out.2.2.2.2 (by simp))))))
  replace HR := Lib.hid (HR.out.grown g)
  replace HG := Lib.hid (World.grownBy.trans HG.out g)
  clear g
  have qB80 := HB8.out.1
  have qB81 := HB8.out.2
  have qB90 := HB9.out.1
  have qB91 := HB9.out.2
  have qB100 := HB10.out.1
  have qB101 := HB10.out.2
  have qB110 := HB11.out.1
  have qB111 := HB11.out.2
  have qB130 := HB13.out.1
  have qB131 := HB13.out.2
  have qB150 := HB15.out.1
  have qB151 := HB15.out.2
  have qr0 := HRB.out.1
  have qr1 := HRB.out.2.1
  have qr2 := HRB.out.2.2.1
  have qr3 := HRB.out.2.2.2.1
  have qr4 := HRB.out.2.2.2.2
  go_wp2_with fail
  clear qB80 qB81 qB90 qB91 qB100 qB101 qB110 qB111 qB130 qB131 qB150 qB151 qr0 qr1 qr2 qr3 qr4
  refine (unionV (k : Nat) (k : Nat) vL1.out vL2.out hn5 hk3 (by rw [← EL1.out, ← EL2.out]; exact EL7.out) ZL1.out ZL2.out ZL7.out _ _ _ _ _ Ha.out Hb.out).mono ?_
  rintro e V16 ⟨xr5, yr5, rfl, hr, g⟩
  replace Ha := Lib.hid (Ha.out.grown g)
  replace Hb := Lib.hid (Hb.out.grown g)
  replace Hc := Lib.hid (Hc.out.grown g)
  replace Hcj := Lib.hid (Hcj.out.grown g)
  replace Hr2 := Lib.hid (Hr2.out.grown g)
  replace Hb2 := Lib.hid (Hb2.out.grown g)
  replace HB8 := Lib.hid (And.intro (World.grownBy.cell g HB8.out.1 (by simp)) (World.grownBy.cell g HB8.out.2 (by simp)))
  replace HB9 := Lib.hid (And.intro (World.grownBy.cell g HB9.out.1 (by simp)) (World.grownBy.cell g HB9.out.2 (by simp)))
  replace HB10 := Lib.hid (And.intro (World.grownBy.cell g HB10.out.1 (by simp)) (World.grownBy.cell g HB10.out.2 (by simp)))
  replace HB11 := Lib.hid (And.intro (World.grownBy.cell g HB11.out.1 (by simp)) (World.grownBy.cell g HB11.out.2 (by simp)))
  replace HB13 := Lib.hid (And.intro (World.grownBy.cell g HB13.out.1 (by simp)) (World.grownBy.cell g HB13.out.2 (by simp)))
  replace HB15 := Lib.hid (And.intro (World.grownBy.cell g HB15.out.1 (by simp)) (World.grownBy.cell g HB15.out.2 (by simp)))
  replace HRB := Lib.hid (And.intro (World.grownBy.cell g HRB.out.1 (by simp)) (And.intro (World.grownBy.cell g HRB.out.2.1 (by simp)) (And.intro (World.grownBy.cell g HRB.out.2.2.1 (by simp)) (And.intro (World.grownBy.cell g HRB.out.2.2.2.1 (by simp)) (World.grownBy.cell g HRB.out.2.2.2.2 (by simp))))))
  replace HR := Lib.hid (HR.out.grown g)
  replace HG := Lib.hid (World.grownBy.trans HG.out g)
  clear g
  have Hr5 := Lib.hid hr
  clear hr
  have qB80 := HB8.out.1
  have qB81 := HB8.out.2
  have qB90 := HB9.out.1
  have qB91 := HB9.out.2
  have qB100 := HB10.out.1
  have qB101 := HB10.out.2
  have qB110 := HB11.out.1
  have qB111 := HB11.out.2
  have qB130 := HB13.out.1
  have qB131 := HB13.out.2
  have qB150 := HB15.out.1
  have qB151 := HB15.out.2
  have qr0 := HRB.out.1
  have qr1 := HRB.out.2.1
  have qr2 := HRB.out.2.2.1
  have qr3 := HRB.out.2.2.2.1
  have qr4 := HRB.out.2.2.2.2
  go_wp2_with fail
  clear qB80 qB81 qB90 qB91 qB100 qB101 qB110 qB111 qB130 qB131 qB150 qB151 qr0 qr1 qr2 qr3 qr4
  refine (validV (k := k) vL7.out hn5 hk1 hk3 ZL7.out _ _ _ Hr5.out).mono ?_
  rintro e V17 ⟨rfl, g⟩
  replace Ha := Lib.hid (Ha.out.grown g)
  replace Hb := Lib.hid (Hb.out.grown g)
  replace Hc := Lib.hid (Hc.out.grown g)
  replace Hcj := Lib.hid (Hcj.out.grown g)
  replace Hr2 := Lib.hid (Hr2.out.grown g)
  replace Hb2 := Lib.hid (Hb2.out.grown g)
  replace Hr5 := Lib.hid (Hr5.out.grown g)
  replace HB8 := Lib.hid (And.intro (World.grownBy.cell g HB8.out.1 (by simp)) (World.grownBy.cell g HB8.out.2 (by simp)))
  replace HB9 := Lib.hid (And.intro (World.grownBy.cell g HB9.out.1 (by simp)) (World.grownBy.cell g HB9.out.2 (by simp)))
  replace HB10 := Lib.hid (And.intro (World.grownBy.cell g HB10.out.1 (by simp)) (World.grownBy.cell g HB10.out.2 (by simp)))
  replace HB11 := Lib.hid (And.intro (World.grownBy.cell g HB11.out.1 (by simp)) (World.grownBy.cell g HB11.out.2 (by simp)))
  replace HB13 := Lib.hid (And.intro (World.grownBy.cell g HB13.out.1 (by simp)) (World.grownBy.cell g HB13.out.2 (by simp)))
  replace HB15 := Lib.hid (And.intro (World.grownBy.cell g HB15.out.1 (by simp)) (World.grownBy.cell g HB15.out.2 (by simp)))
  replace HRB := Lib.hid (And.intro (World.grownBy.cell g HRB.out.1 (by simp)) (And.intro (World.grownBy.cell g HRB.out.2.1 (by simp)) (And.intro (World.grownBy.cell g HRB.out.2.2.1 (by simp)) (And.intro (World.grownBy.cell g HRB.out.2.2.2.1 (by simp)) (World.grownBy.cell g HRB.out.2.2.2.2 (by simp))))))
  replace HR := Lib.hid (HR.out.grown g)
  replace HG := Lib.hid (World.grownBy.trans HG.out g)
  clear g
  have qB80 := HB8.out.1
  have qB81 := HB8.out.2
  have qB90 := HB9.out.1
  have qB91 := HB9.out.2
  have qB100 := HB10.out.1
  have qB101 := HB10.out.2
  have qB110 := HB11.out.1
  have qB111 := HB11.out.2
  have qB130 := HB13.out.1
  have qB131 := HB13.out.2
  have qB150 := HB15.out.1
  have qB151 := HB15.out.2
  have qr0 := HRB.out.1
  have qr1 := HRB.out.2.1
  have qr2 := HRB.out.2.2.1
  have qr3 := HRB.out.2.2.2.1
  have qr4 := HRB.out.2.2.2.2
  go_wp2_with fail
  clear qB80 qB81 qB90 qB91 qB100 qB101 qB110 qB111 qB130 qB131 qB150 qB151 qr0 qr1 qr2 qr3 qr4
  refine (interV (k : Nat) (k : Nat) vL1.out vL2.out hn5 hk3 (by rw [← EL1.out, ← EL2.out]; exact EL8.out) ZL1.out ZL2.out ZL8.out _ _ _ _ _ Ha.out Hb.out).mono ?_
  rintro e V18 ⟨xr7, yr7, rfl, hr, g⟩
  replace Ha := Lib.hid (Ha.out.grown g)
  replace Hb := Lib.hid (Hb.out.grown g)
  replace Hc := Lib.hid (Hc.out.grown g)
  replace Hcj := Lib.hid (Hcj.out.grown g)
  replace Hr2 := Lib.hid (Hr2.out.grown g)
  replace Hb2 := Lib.hid (Hb2.out.grown g)
  replace Hr5 := Lib.hid (Hr5.out.grown g)
  replace HB8 := Lib.hid (And.intro (World.grownBy.cell g HB8.out.1 (by simp)) (World.grownBy.cell g HB8.out.2 (by simp)))
  replace HB9 := Lib.hid (And.intro (World.grownBy.cell g HB9.out.1 (by simp)) (World.grownBy.cell g HB9.out.2 (by simp)))
  replace HB10 := Lib.hid (And.intro (World.grownBy.cell g HB10.out.1 (by simp)) (World.grownBy.cell g HB10.out.2 (by simp)))
  replace HB11 := Lib.hid (And.intro (World.grownBy.cell g HB11.out.1 (by simp)) (World.grownBy.cell g HB11.out.2 (by simp)))
  replace HB13 := Lib.hid (And.intro (World.grownBy.cell g HB13.out.1 (by simp)) (World.grownBy.cell g HB13.out.2 (by simp)))
  replace HB15 := Lib.hid (And.intro (World.grownBy.cell g HB15.out.1 (by simp)) (World.grownBy.cell g HB15.out.2 (by simp)))
  replace HRB := Lib.hid (And.intro (World.grownBy.cell g HRB.out.1 (by simp)) (And.intro (World.grownBy.cell g HRB.out.2.1 (by simp)) (And.intro (World.grownBy.cell g HRB.out.2.2.1 (by simp)) (And.intro (World.grownBy.cell g HRB.out.2.2.2.1 (by simp)) (World.grownBy.cell g HRB.out.2.2.2.2 (by simp))))))
  replace HR := Lib.hid (HR.out.grown g)
  replace HG := Lib.hid (World.grownBy.trans HG.out g)
  clear g
  have Hr7 := Lib.hid hr
  clear hr
  have qB80 := HB8.out.1
  have qB81 := HB8.out.2
  have qB90 := HB9.out.1
  have qB91 := HB9.out.2
  have qB100 := HB10.out.1
  have qB101 := HB10.out.2
  have qB110 := HB11.out.1
  have qB111 := HB11.out.2
  have qB130 := HB13.out.1
  have qB131 := HB13.out.2
  have qB150 := HB15.out.1
  have qB151 := HB15.out.2
  have qr0 := HRB.out.1
  have qr1 := HRB.out.2.1
  have qr2 := HRB.out.2.2.1
  have qr3 := HRB.out.2.2.2.1
  have qr4 := HRB.out.2.2.2.2
  go_wp2_with fail
  clear qB80 qB81 qB90 qB91 qB100 qB101 qB110 qB111 qB130 qB131 qB150 qB151 qr0 qr1 qr2 qr3 qr4
  refine (validV (k := k) vL8.out hn5 hk1 hk3 ZL8.out _ _ _ Hr7.out).mono ?_
  rintro e V19 ⟨rfl, g⟩
  replace Ha := Lib.hid (Ha.out.grown g)
  replace Hb := Lib.hid (Hb.out.grown g)
  replace Hc := Lib.hid (Hc.out.grown g)
  replace Hcj := Lib.hid (Hcj.out.grown g)
  replace Hr2 := Lib.hid (Hr2.out.grown g)
  replace Hb2 := Lib.hid (Hb2.out.grown g)
  replace Hr5 := Lib.hid (Hr5.out.grown g)
  replace Hr7 := Lib.hid (Hr7.out.grown g)
  replace HB8 := Lib.hid (And.intro (World.grownBy.cell g HB8.out.1 (by simp)) (World.grownBy.cell g HB8.out.2 (by simp)))
  replace HB9 := Lib.hid (And.intro (World.grownBy.cell g HB9.out.1 (by simp)) (World.grownBy.cell g HB9.out.2 (by simp)))
  replace HB10 := Lib.hid (And.intro (World.grownBy.cell g HB10.out.1 (by simp)) (World.grownBy.cell g HB10.out.2 (by simp)))
  replace HB11 := Lib.hid (And.intro (World.grownBy.cell g HB11.out.1 (by simp)) (World.grownBy.cell g HB11.out.2 (by simp)))
  replace HB13 := Lib.hid (And.intro (World.grownBy.cell g HB13.out.1 (by simp)) (World.grownBy.cell g HB13.out.2 (by simp)))
  replace HB15 := Lib.hid (And.intro (World.grownBy.cell g HB15.out.1 (by simp)) (World.grownBy.cell g HB15.out.2 (by simp)))
  replace HRB := Lib.hid (And.intro (World.grownBy.cell g HRB.out.1 (by simp)) (And.intro (World.grownBy.cell g HRB.out.2.1 (by simp)) (And.intro (World.grownBy.cell g HRB.out.2.2.1 (by simp)) (And.intro (World.grownBy.cell g HRB.out.2.2.2.1 (by simp)) (World.grownBy.cell g HRB.out.2.2.2.2 (by simp))))))
  replace HR := Lib.hid (HR.out.grown g)
  replace HG := Lib.hid (World.grownBy.trans HG.out g)
  clear g
  have qB80 := HB8.out.1
  have qB81 := HB8.out.2
  have qB90 := HB9.out.1
  have qB91 := HB9.out.2
  have qB100 := HB10.out.1
  have qB101 := HB10.out.2
  have qB110 := HB11.out.1
  have qB111 := HB11.out.2
  have qB130 := HB13.out.1
  have qB131 := HB13.out.2
  have qB150 := HB15.out.1
  have qB151 := HB15.out.2
  have qr0 := HRB.out.1
  have qr1 := HRB.out.2.1
  have qr2 := HRB.out.2.2.1
  have qr3 := HRB.out.2.2.2.1
  have qr4 := HRB.out.2.2.2.2
  go_wp2_with fail
  clear qB80 qB81 qB90 qB91 qB100 qB101 qB110 qB111 qB130 qB131 qB150 qB151 qr0 qr1 qr2 qr3 qr4
  refine (diffV (k : Nat) (k : Nat) vL1.out vL2.out hn5 hk3 (by rw [← EL1.out, ← EL2.out]; exact EL9.out) ZL1.out ZL2.out ZL9.out _ _ _ _ _ Ha.out Hb.out).mono ?_
  rintro e V20 ⟨xr9, yr9, rfl, hr, g⟩
  replace Ha := Lib.hid (Ha.out.grown g)
  replace Hb := Lib.hid (Hb.out.grown g)
  replace Hc := Lib.hid (Hc.out.grown g)
  replace Hcj := Lib.hid (Hcj.out.grown g)
  replace Hr2 := Lib.hid (Hr2.out.grown g)
  replace Hb2 := Lib.hid (Hb2.out.grown g)
  replace Hr5 := Lib.hid (Hr5.out.grown g)
  replace Hr7 := Lib.hid (Hr7.out.grown g)
  replace HB8 := Lib.hid (And.intro (World.grownBy.cell g HB8.out.1 (by simp)) (World.grownBy.cell g HB8.out.2 (by simp)))
  replace HB9 := Lib.hid (And.intro (World.grownBy.cell g HB9.out.1 (by simp)) (World.grownBy.cell g HB9.out.2 (by simp)))
  replace HB10 := Lib.hid (And.intro (World.grownBy.cell g HB10.out.1 (by simp)) (World.grownBy.cell g HB10.out.2 (by simp)))
  replace HB11 := Lib.hid (And.intro (World.grownBy.cell g HB11.out.1 (by simp)) (World.grownBy.cell g HB11.out.2 (by simp)))
  replace HB13 := Lib.hid (And.intro (World.grownBy.cell g HB13.out.1 (by simp)) (World.grownBy.cell g HB13.out.2 (by simp)))
  replace HB15 := Lib.hid (And.intro (World.grownBy.cell g HB15.out.1 (by simp)) (World.grownBy.cell g HB15.out.2 (by simp)))
  replace HRB := Lib.hid (And.intro (World.grownBy.cell g HRB.out.1 (by simp)) (And.intro (World.grownBy.cell g HRB.out.2.1 (by simp)) (And.intro (World.grownBy.cell g HRB.out.2.2.1 (by simp)) (And.intro (World.grownBy.cell g HRB.out.2.2.2.1 (by simp)) (World.grownBy.cell g HRB.out.2.2.2.2 (by simp))))))
  replace HR := Lib.hid (HR.out.grown g)
  replace HG := Lib.hid (World.grownBy.trans HG.out g)
  clear g
  have Hr9 := Lib.hid hr
  clear hr
  have qB80 := HB8.out.1
  have qB81 := HB8.out.2
  have qB90 := HB9.out.1
  have qB91 := HB9.out.2
  have qB100 := HB10.out.1
  have qB101 := HB10.out.2
  have qB110 := HB11.out.1
  have qB111 := HB11.out.2
  have qB130 := HB13.out.1
  have qB131 := HB13.out.2
  have qB150 := HB15.out.1
  have qB151 := HB15.out.2
  have qr0 := HRB.out.1
  have qr1 := HRB.out.2.1
  have qr2 := HRB.out.2.2.1
  have qr3 := HRB.out.2.2.2.1
  have qr4 := HRB.out.2.2.2.2
  go_wp2_with fail
  clear qB80 qB81 qB90 qB91 qB100 qB101 qB110 qB111 qB130 qB131 qB150 qB151 qr0 qr1 qr2 qr3 qr4
  refine (validV (k := k) vL9.out hn5 hk1 hk3 ZL9.out _ _ _ Hr9.out).mono ?_
  rintro e V21 ⟨rfl, g⟩
  replace Ha := Lib.hid (Ha.out.grown g)
  replace Hb := Lib.hid (Hb.out.grown g)
  replace Hc := Lib.hid (Hc.out.grown g)
  replace Hcj := Lib.hid (Hcj.out.grown g)
  replace Hr2 := Lib.hid (Hr2.out.grown g)
  replace Hb2 := Lib.hid (Hb2.out.grown g)
  replace Hr5 := Lib.hid (Hr5.out.grown g)
  replace Hr7 := Lib.hid (Hr7.out.grown g)
  replace Hr9 := Lib.hid (Hr9.out.grown g)
  replace HB8 := Lib.hid (And.intro (World.grownBy.cell g HB8.out.1 (by simp)) (World.grownBy.cell g HB8.out.2 (by simp)))
  replace HB9 := Lib.hid (And.intro (World.grownBy.cell g HB9.out.1 (by simp)) (World.grownBy.cell g HB9.out.2 (by simp)))
  replace HB10 := Lib.hid (And.intro (World.grownBy.cell g HB10.out.1 (by simp)) (World.grownBy.cell g HB10.out.2 (by simp)))
  replace HB11 := Lib.hid (And.intro (World.grownBy.cell g HB11.out.1 (by simp)) (World.grownBy.cell g HB11.out.2 (by simp)))
  replace HB13 := Lib.hid (And.intro (World.grownBy.cell g HB13.out.1 (by simp)) (World.grownBy.cell g HB13.out.2 (by simp)))
  replace HB15 := Lib.hid (And.intro (World.grownBy.cell g HB15.out.1 (by simp)) (World.grownBy.cell g HB15.out.2 (by simp)))
  replace HRB := Lib.hid (And.intro (World.grownBy.cell g HRB.out.1 (by simp)) (And.intro (World.grownBy.cell g HRB.out.2.1 (by simp)) (And.intro (World.grownBy.cell g HRB.out.2.2.1 (by simp)) (And.intro (World.grownBy.cell g HRB.out.2.2.2.1 (by simp)) (World.grownBy.cell g HRB.out.2.2.2.2 (by simp))))))
  replace HR := Lib.hid (HR.out.grown g)
  replace HG := Lib.hid (World.grownBy.trans HG.out g)
  clear g
  have qB80 := HB8.out.1
  have qB81 := HB8.out.2
  have qB90 := HB9.out.1
  have qB91 := HB9.out.2
  have qB100 := HB10.out.1
  have qB101 := HB10.out.2
  have qB110 := HB11.out.1
  have qB111 := HB11.out.2
  have qB130 := HB13.out.1
  have qB131 := HB13.out.2
  have qB150 := HB15.out.1
  have qB151 := HB15.out.2
  have qr0 := HRB.out.1
  have qr1 := HRB.out.2.1
  have qr2 := HRB.out.2.2.1
  have qr3 := HRB.out.2.2.2.1
  have qr4 := HRB.out.2.2.2.2
  go_wp2_with fail
  clear qB80 qB81 qB90 qB91 qB100 qB101 qB110 qB111 qB130 qB131 qB150 qB151 qr0 qr1 qr2 qr3 qr4
  refine (overV (k := k) (j := k) vL1.out vL2.out hn1 hn5 hk3 hk1 hk3 (by rw [← EL1.out, ← EL2.out]; exact EL10.out) ZL1.out ZL2.out ZL10.out _ _ _ _ _ Ha.out Hb.out).mono ?_
  rintro e V22 ⟨xr11, yr11, rfl, hr, g⟩
  replace Ha := Lib.hid (Ha.out.grown g)
  replace Hb := Lib.hid (Hb.out.grown g)
  replace Hc := Lib.hid (Hc.out.grown g)
  replace Hcj := Lib.hid (Hcj.out.grown g)
  replace Hr2 := Lib.hid (Hr2.out.grown g)
  replace Hb2 := Lib.hid (Hb2.out.grown g)
  replace Hr5 := Lib.hid (Hr5.out.grown g)
  replace Hr7 := Lib.hid (Hr7.out.grown g)
  replace Hr9 := Lib.hid (Hr9.out.grown g)
  replace HB8 := Lib.hid (And.intro (World.grownBy.cell g HB8.out.1 (by simp)) (World.grownBy.cell g HB8.out.2 (by simp)))
  replace HB9 := Lib.hid (And.intro (World.grownBy.cell g HB9.out.1 (by simp)) (World.grownBy.cell g HB9.out.2 (by simp)))
  replace HB10 := Lib.hid (And.intro (World.grownBy.cell g HB10.out.1 (by simp)) (World.grownBy.cell g HB10.out.2 (by simp)))
  replace HB11 := Lib.hid (And.intro (World.grownBy.cell g HB11.out.1 (by simp)) (World.grownBy.cell g HB11.out.2 (by simp)))
  replace HB13 := Lib.hid (And.intro (World.grownBy.cell g HB13.out.1 (by simp)) (World.grownBy.cell g HB13.out.2 (by simp)))
  replace HB15 := Lib.hid (And.intro (World.grownBy.cell g HB15.out.1 (by simp)) (World.grownBy.cell g HB15.out.2 (by simp)))
  replace HRB := Lib.hid (And.intro (World.grownBy.cell g HRB.out.1 (by simp)) (And.intro (World.grownBy.cell g HRB.out.2.1 (by simp)) (And.intro (World.grownBy.cell g HRB.out.2.2.1 (by simp)) (And.intro (World.grownBy.cell g HRB.out.2.2.2.1 (by simp)) (World.grownBy.cell g HRB.out.2.2.2.2 (by simp))))))
  replace HR := Lib.hid (HR.out.grown g)
  replace HG := Lib.hid (World.grownBy.trans HG.out g)
  clear g
  have Hr11 := Lib.hid hr
  clear hr
  have qB80 := HB8.out.1
  have qB81 := HB8.out.2
  have qB90 := HB9.out.1
  have qB91 := HB9.out.2
  have qB100 := HB10.out.1
  have qB101 := HB10.out.2
  have qB110 := HB11.out.1
  have qB111 := HB11.out.2
  have qB130 := HB13.out.1
  have qB131 := HB13.out.2
  have qB150 := HB15.out.1
  have qB151 := HB15.out.2
  have qr0 := HRB.out.1
  have qr1 := HRB.out.2.1
  have qr2 := HRB.out.2.2.1
  have qr3 := HRB.out.2.2.2.1
  have qr4 := HRB.out.2.2.2.2
  go_wp2_with fail
  clear qB80 qB81 qB90 qB91 qB100 qB101 qB110 qB111 qB130 qB131 qB150 qB151 qr0 qr1 qr2 qr3 qr4
  refine (validV (k := k) vL10.out hn5 hk1 hk3 ZL10.out _ _ _ Hr11.out).mono ?_
  rintro e V23 ⟨rfl, g⟩
  replace Ha := Lib.hid (Ha.out.grown g)
  replace Hb := Lib.hid (Hb.out.grown g)
  replace Hc := Lib.hid (Hc.out.grown g)
  replace Hcj := Lib.hid (Hcj.out.grown g)
  replace Hr2 := Lib.hid (Hr2.out.grown g)
  replace Hb2 := Lib.hid (Hb2.out.grown g)
  replace Hr5 := Lib.hid (Hr5.out.grown g)
  replace Hr7 := Lib.hid (Hr7.out.grown g)
  replace Hr9 := Lib.hid (Hr9.out.grown g)
  replace Hr11 := Lib.hid (Hr11.out.grown g)
  replace HB8 := Lib.hid (And.intro (World.grownBy.cell g HB8.out.1 (by simp)) (World.grownBy.cell g HB8.out.2 (by simp)))
  replace HB9 := Lib.hid (And.intro (World.grownBy.cell g HB9.out.1 (by simp)) (World.grownBy.cell g HB9.out.2 (by simp)))
  replace HB10 := Lib.hid (And.intro (World.grownBy.cell g HB10.out.1 (by simp)) (World.grownBy.cell g HB10.out.2 (by simp)))
  replace HB11 := Lib.hid (And.intro (World.grownBy.cell g HB11.out.1 (by simp)) (World.grownBy.cell g HB11.out.2 (by simp)))
  replace HB13 := Lib.hid (And.intro (World.grownBy.cell g HB13.out.1 (by simp)) (World.grownBy.cell g HB13.out.2 (by simp)))
  replace HB15 := Lib.hid (And.intro (World.grownBy.cell g HB15.out.1 (by simp)) (World.grownBy.cell g HB15.out.2 (by simp)))
  replace HRB := Lib.hid (And.intro (World.grownBy.cell g HRB.out.1 (by simp)) (And.intro (World.grownBy.cell g HRB.out.2.1 (by simp)) (And.intro (World.grownBy.cell g HRB.out.2.2.1 (by simp)) (And.intro (World.grownBy.cell g HRB.out.2.2.2.1 (by simp)) (World.grownBy.cell g HRB.out.2.2.2.2 (by simp))))))
  replace HR := Lib.hid (HR.out.grown g)
  replace HG := Lib.hid (World.grownBy.trans HG.out g)
  clear g
  have qB80 := HB8.out.1
  have qB81 := HB8.out.2
  have qB90 := HB9.out.1
  have qB91 := HB9.out.2
  have qB100 := HB10.out.1
  have qB101 := HB10.out.2
  have qB110 := HB11.out.1
  have qB111 := HB11.out.2
  have qB130 := HB13.out.1
  have qB131 := HB13.out.2
  have qB150 := HB15.out.1
  have qB151 := HB15.out.2
  have qr0 := HRB.out.1
  have qr1 := HRB.out.2.1
  have qr2 := HRB.out.2.2.1
  have qr3 := HRB.out.2.2.2.1
  have qr4 := HRB.out.2.2.2.2
  go_wp2_with fail
  clear qB80 qB81 qB90 qB91 qB100 qB101 qB110 qB111 qB130 qB131 qB150 qB151 qr0 qr1 qr2 qr3 qr4
  refine (turnV vL6.out hn1 hn5 (by rw [← EL6.out]; exact EL11.out) ZL6.out ZL11.out _ _ _ Hb2.out).mono ?_
  rintro e V24 ⟨xr13, yr13, rfl, hr, g⟩
  replace Ha := Lib.hid (Ha.out.grown g)
  replace Hb := Lib.hid (Hb.out.grown g)
  replace Hc := Lib.hid (Hc.out.grown g)
  replace Hcj := Lib.hid (Hcj.out.grown g)
  replace Hr2 := Lib.hid (Hr2.out.grown g)
  replace Hb2 := Lib.hid (Hb2.out.grown g)
  replace Hr5 := Lib.hid (Hr5.out.grown g)
  replace Hr7 := Lib.hid (Hr7.out.grown g)
  replace Hr9 := Lib.hid (Hr9.out.grown g)
  replace Hr11 := Lib.hid (Hr11.out.grown g)
  replace HB8 := Lib.hid (And.intro (World.grownBy.cell g HB8.out.1 (by simp)) (World.grownBy.cell g HB8.out.2 (by simp)))
  replace HB9 := Lib.hid (And.intro (World.grownBy.cell g HB9.out.1 (by simp)) (World.grownBy.cell g HB9.out.2 (by simp)))
  replace HB10 := Lib.hid (And.intro (World.grownBy.cell g HB10.out.1 (by simp)) (World.grownBy.cell g HB10.out.2 (by simp)))
  replace HB11 := Lib.hid (And.intro (World.grownBy.cell g HB11.out.1 (by simp)) (World.grownBy.cell g HB11.out.2 (by simp)))
  replace HB13 := Lib.hid (And.intro (World.grownBy.cell g HB13.out.1 (by simp)) (World.grownBy.cell g HB13.out.2 (by simp)))
  replace HB15 := Lib.hid (And.intro (World.grownBy.cell g HB15.out.1 (by simp)) (World.grownBy.cell g HB15.out.2 (by simp)))
  replace HRB := Lib.hid (And.intro (World.grownBy.cell g HRB.out.1 (by simp)) (And.intro (World.grownBy.cell g HRB.out.2.1 (by simp)) (And.intro (World.grownBy.cell g HRB.out.2.2.1 (by simp)) (And.intro (World.grownBy.cell g HRB.out.2.2.2.1 (by simp)) (World.grownBy.cell g HRB.out.2.2.2.2 (by simp))))))
  replace HR := Lib.hid (HR.out.grown g)
  replace HG := Lib.hid (World.grownBy.trans HG.out g)
  clear g
  have Hr13 := Lib.hid hr
  clear hr
  have qB80 := HB8.out.1
  have qB81 := HB8.out.2
  have qB90 := HB9.out.1
  have qB91 := HB9.out.2
  have qB100 := HB10.out.1
  have qB101 := HB10.out.2
  have qB110 := HB11.out.1
  have qB111 := HB11.out.2
  have qB130 := HB13.out.1
  have qB131 := HB13.out.2
  have qB150 := HB15.out.1
  have qB151 := HB15.out.2
  have qr0 := HRB.out.1
  have qr1 := HRB.out.2.1
  have qr2 := HRB.out.2.2.1
  have qr3 := HRB.out.2.2.2.1
  have qr4 := HRB.out.2.2.2.2
  go_wp2_with fail
  clear qB80 qB81 qB90 qB91 qB100 qB101 qB110 qB111 qB130 qB131 qB150 qB151 qr0 qr1 qr2 qr3 qr4
  refine (validV (k := 2) vL11.out hn5 (by omega) (by omega) ZL11.out _ _ _ Hr13.out).mono ?_
  rintro e V25 ⟨rfl, g⟩
  replace Ha := Lib.hid (Ha.out.grown g)
  replace Hb := Lib.hid (Hb.out.grown g)
  replace Hc := Lib.hid (Hc.out.grown g)
  replace Hcj := Lib.hid (Hcj.out.grown g)
  replace Hr2 := Lib.hid (Hr2.out.grown g)
  replace Hb2 := Lib.hid (Hb2.out.grown g)
  replace Hr5 := Lib.hid (Hr5.out.grown g)
  replace Hr7 := Lib.hid (Hr7.out.grown g)
  replace Hr9 := Lib.hid (Hr9.out.grown g)
  replace Hr11 := Lib.hid (Hr11.out.grown g)
  replace Hr13 := Lib.hid (Hr13.out.grown g)
  replace HB8 := Lib.hid (And.intro (World.grownBy.cell g HB8.out.1 (by simp)) (World.grownBy.cell g HB8.out.2 (by simp)))
  replace HB9 := Lib.hid (And.intro (World.grownBy.cell g HB9.out.1 (by simp)) (World.grownBy.cell g HB9.out.2 (by simp)))
  replace HB10 := Lib.hid (And.intro (World.grownBy.cell g HB10.out.1 (by simp)) (World.grownBy.cell g HB10.out.2 (by simp)))
  replace HB11 := Lib.hid (And.intro (World.grownBy.cell g HB11.out.1 (by simp)) (World.grownBy.cell g HB11.out.2 (by simp)))
  replace HB13 := Lib.hid (And.intro (World.grownBy.cell g HB13.out.1 (by simp)) (World.grownBy.cell g HB13.out.2 (by simp)))
  replace HB15 := Lib.hid (And.intro (World.grownBy.cell g HB15.out.1 (by simp)) (World.grownBy.cell g HB15.out.2 (by simp)))
  replace HRB := Lib.hid (And.intro (World.grownBy.cell g HRB.out.1 (by simp)) (And.intro (World.grownBy.cell g HRB.out.2.1 (by simp)) (And.intro (World.grownBy.cell g HRB.out.2.2.1 (by simp)) (And.intro (World.grownBy.cell g HRB.out.2.2.2.1 (by simp)) (World.grownBy.cell g HRB.out.2.2.2.2 (by simp))))))
  replace HR := Lib.hid (HR.out.grown g)
  replace HG := Lib.hid (World.grownBy.trans HG.out g)
  clear g
  have qB80 := HB8.out.1
  have qB81 := HB8.out.2
  have qB90 := HB9.out.1
  have qB91 := HB9.out.2
  have qB100 := HB10.out.1
  have qB101 := HB10.out.2
  have qB110 := HB11.out.1
  have qB111 := HB11.out.2
  have qB130 := HB13.out.1
  have qB131 := HB13.out.2
  have qB150 := HB15.out.1
  have qB151 := HB15.out.2
  have qr0 := HRB.out.1
  have qr1 := HRB.out.2.1
  have qr2 := HRB.out.2.2.1
  have qr3 := HRB.out.2.2.2.1
  have qr4 := HRB.out.2.2.2.2
  go_wp2_with fail
  clear qB80 qB81 qB90 qB91 qB100 qB101 qB110 qB111 qB130 qB131 qB150 qB151 qr0 qr1 qr2 qr3 qr4
  refine (closV vL6.out hn5 (by rw [← EL6.out]; exact EL12.out) ZL6.out ZL12.out _ _ _ Hb2.out).mono ?_
  rintro e V26 ⟨xr15, yr15, rfl, hr, g⟩
  replace Ha := Lib.hid (Ha.out.grown g)
  replace Hb := Lib.hid (Hb.out.grown g)
  replace Hc := Lib.hid (Hc.out.grown g)
  replace Hcj := Lib.hid (Hcj.out.grown g)
  replace Hr2 := Lib.hid (Hr2.out.grown g)
  replace Hb2 := Lib.hid (Hb2.out.grown g)
  replace Hr5 := Lib.hid (Hr5.out.grown g)
  replace Hr7 := Lib.hid (Hr7.out.grown g)
  replace Hr9 := Lib.hid (Hr9.out.grown g)
  replace Hr11 := Lib.hid (Hr11.out.grown g)
  replace Hr13 := Lib.hid (Hr13.out.grown g)
  replace HB8 := Lib.hid (And.intro (World.grownBy.cell g HB8.out.1 (by simp)) (World.grownBy.cell g HB8.out.2 (by simp)))
  replace HB9 := Lib.hid (And.intro (World.grownBy.cell g HB9.out.1 (by simp)) (World.grownBy.cell g HB9.out.2 (by simp)))
  replace HB10 := Lib.hid (And.intro (World.grownBy.cell g HB10.out.1 (by simp)) (World.grownBy.cell g HB10.out.2 (by simp)))
  replace HB11 := Lib.hid (And.intro (World.grownBy.cell g HB11.out.1 (by simp)) (World.grownBy.cell g HB11.out.2 (by simp)))
  replace HB13 := Lib.hid (And.intro (World.grownBy.cell g HB13.out.1 (by simp)) (World.grownBy.cell g HB13.out.2 (by simp)))
  replace HB15 := Lib.hid (And.intro (World.grownBy.cell g HB15.out.1 (by simp)) (World.grownBy.cell g HB15.out.2 (by simp)))
  replace HRB := Lib.hid (And.intro (World.grownBy.cell g HRB.out.1 (by simp)) (And.intro (World.grownBy.cell g HRB.out.2.1 (by simp)) (And.intro (World.grownBy.cell g HRB.out.2.2.1 (by simp)) (And.intro (World.grownBy.cell g HRB.out.2.2.2.1 (by simp)) (World.grownBy.cell g HRB.out.2.2.2.2 (by simp))))))
  replace HR := Lib.hid (HR.out.grown g)
  replace HG := Lib.hid (World.grownBy.trans HG.out g)
  clear g
  have Hr15 := Lib.hid hr
  clear hr
  have qB80 := HB8.out.1
  have qB81 := HB8.out.2
  have qB90 := HB9.out.1
  have qB91 := HB9.out.2
  have qB100 := HB10.out.1
  have qB101 := HB10.out.2
  have qB110 := HB11.out.1
  have qB111 := HB11.out.2
  have qB130 := HB13.out.1
  have qB131 := HB13.out.2
  have qB150 := HB15.out.1
  have qB151 := HB15.out.2
  have qr0 := HRB.out.1
  have qr1 := HRB.out.2.1
  have qr2 := HRB.out.2.2.1
  have qr3 := HRB.out.2.2.2.1
  have qr4 := HRB.out.2.2.2.2
  go_wp2_with fail
  clear qB80 qB81 qB90 qB91 qB100 qB101 qB110 qB111 qB130 qB131 qB150 qB151 qr0 qr1 qr2 qr3 qr4
  refine (validV (k := 2) vL12.out hn5 (by omega) (by omega) ZL12.out _ _ _ Hr15.out).mono ?_
  rintro e V27 ⟨rfl, g⟩
  replace Ha := Lib.hid (Ha.out.grown g)
  replace Hb := Lib.hid (Hb.out.grown g)
  replace Hc := Lib.hid (Hc.out.grown g)
  replace Hcj := Lib.hid (Hcj.out.grown g)
  replace Hr2 := Lib.hid (Hr2.out.grown g)
  replace Hb2 := Lib.hid (Hb2.out.grown g)
  replace Hr5 := Lib.hid (Hr5.out.grown g)
  replace Hr7 := Lib.hid (Hr7.out.grown g)
  replace Hr9 := Lib.hid (Hr9.out.grown g)
  replace Hr11 := Lib.hid (Hr11.out.grown g)
  replace Hr13 := Lib.hid (Hr13.out.grown g)
  replace Hr15 := Lib.hid (Hr15.out.grown g)
  replace HB8 := Lib.hid (And.intro (World.grownBy.cell g HB8.out.1 (by simp)) (World.grownBy.cell g HB8.out.2 (by simp)))
  replace HB9 := Lib.hid (And.intro (World.grownBy.cell g HB9.out.1 (by simp)) (World.grownBy.cell g HB9.out.2 (by simp)))
  replace HB10 := Lib.hid (And.intro (World.grownBy.cell g HB10.out.1 (by simp)) (World.grownBy.cell g HB10.out.2 (by simp)))
  replace HB11 := Lib.hid (And.intro (World.grownBy.cell g HB11.out.1 (by simp)) (World.grownBy.cell g HB11.out.2 (by simp)))
  replace HB13 := Lib.hid (And.intro (World.grownBy.cell g HB13.out.1 (by simp)) (World.grownBy.cell g HB13.out.2 (by simp)))
  replace HB15 := Lib.hid (And.intro (World.grownBy.cell g HB15.out.1 (by simp)) (World.grownBy.cell g HB15.out.2 (by simp)))
  replace HRB := Lib.hid (And.intro (World.grownBy.cell g HRB.out.1 (by simp)) (And.intro (World.grownBy.cell g HRB.out.2.1 (by simp)) (And.intro (World.grownBy.cell g HRB.out.2.2.1 (by simp)) (And.intro (World.grownBy.cell g HRB.out.2.2.2.1 (by simp)) (World.grownBy.cell g HRB.out.2.2.2.2 (by simp))))))
  replace HR := Lib.hid (HR.out.grown g)
  replace HG := Lib.hid (World.grownBy.trans HG.out g)
  clear g
  have qB80 := HB8.out.1
  have qB81 := HB8.out.2
  have qB90 := HB9.out.1
  have qB91 := HB9.out.2
  have qB100 := HB10.out.1
  have qB101 := HB10.out.2
  have qB110 := HB11.out.1
  have qB111 := HB11.out.2
  have qB130 := HB13.out.1
  have qB131 := HB13.out.2
  have qB150 := HB15.out.1
  have qB151 := HB15.out.2
  have qr0 := HRB.out.1
  have qr1 := HRB.out.2.1
  have qr2 := HRB.out.2.2.1
  have qr3 := HRB.out.2.2.2.1
  have qr4 := HRB.out.2.2.2.2
  go_wp2_with fail
  clear qB80 qB81 qB90 qB91 qB100 qB101 qB110 qB111 qB130 qB131 qB150 qB151 qr0 qr1 qr2 qr3 qr4
  refine (idenV hn5 EL13.out ZL13.out _).mono ?_
  rintro e V28 ⟨xr17, yr17, rfl, hr, g⟩
  replace Ha := Lib.hid (Ha.out.grown g)
  replace Hb := Lib.hid (Hb.out.grown g)
  replace Hc := Lib.hid (Hc.out.grown g)
  replace Hcj := Lib.hid (Hcj.out.grown g)
  replace Hr2 := Lib.hid (Hr2.out.grown g)
  replace Hb2 := Lib.hid (Hb2.out.grown g)
  replace Hr5 := Lib.hid (Hr5.out.grown g)
  replace Hr7 := Lib.hid (Hr7.out.grown g)
  replace Hr9 := Lib.hid (Hr9.out.grown g)
  replace Hr11 := Lib.hid (Hr11.out.grown g)
  replace Hr13 := Lib.hid (Hr13.out.grown g)
  replace Hr15 := Lib.hid (Hr15.out.grown g)
  replace HB8 := Lib.hid (And.intro (World.grownBy.cell g HB8.out.1 (by simp)) (World.grownBy.cell g HB8.out.2 (by simp)))
  replace HB9 := Lib.hid (And.intro (World.grownBy.cell g HB9.out.1 (by simp)) (World.grownBy.cell g HB9.out.2 (by simp)))
  replace HB10 := Lib.hid (And.intro (World.grownBy.cell g HB10.out.1 (by simp)) (World.grownBy.cell g HB10.out.2 (by simp)))
  replace HB11 := Lib.hid (And.intro (World.grownBy.cell g HB11.out.1 (by simp)) (World.grownBy.cell g HB11.out.2 (by simp)))
  replace HB13 := Lib.hid (And.intro (World.grownBy.cell g HB13.out.1 (by simp)) (World.grownBy.cell g HB13.out.2 (by simp)))
  replace HB15 := Lib.hid (And.intro (World.grownBy.cell g HB15.out.1 (by simp)) (World.grownBy.cell g HB15.out.2 (by simp)))
  replace HRB := Lib.hid (And.intro (World.grownBy.cell g HRB.out.1 (by simp)) (And.intro (World.grownBy.cell g HRB.out.2.1 (by simp)) (And.intro (World.grownBy.cell g HRB.out.2.2.1 (by simp)) (And.intro (World.grownBy.cell g HRB.out.2.2.2.1 (by simp)) (World.grownBy.cell g HRB.out.2.2.2.2 (by simp))))))
  replace HR := Lib.hid (HR.out.grown g)
  replace HG := Lib.hid (World.grownBy.trans HG.out g)
  clear g
  have Hr17 := Lib.hid hr
  clear hr
  have qB80 := HB8.out.1
  have qB81 := HB8.out.2
  have qB90 := HB9.out.1
  have qB91 := HB9.out.2
  have qB100 := HB10.out.1
  have qB101 := HB10.out.2
  have qB110 := HB11.out.1
  have qB111 := HB11.out.2
  have qB130 := HB13.out.1
  have qB131 := HB13.out.2
  have qB150 := HB15.out.1
  have qB151 := HB15.out.2
  have qr0 := HRB.out.1
  have qr1 := HRB.out.2.1
  have qr2 := HRB.out.2.2.1
  have qr3 := HRB.out.2.2.2.1
  have qr4 := HRB.out.2.2.2.2
  go_wp2_with fail
  clear qB80 qB81 qB90 qB91 qB100 qB101 qB110 qB111 qB130 qB131 qB150 qB151 qr0 qr1 qr2 qr3 qr4
  refine (validV (k := 2) vL13.out hn5 (by omega) (by omega) ZL13.out _ _ _ Hr17.out).mono ?_
  rintro e V29 ⟨rfl, g⟩
  replace Ha := Lib.hid (Ha.out.grown g)
  replace Hb := Lib.hid (Hb.out.grown g)
  replace Hc := Lib.hid (Hc.out.grown g)
  replace Hcj := Lib.hid (Hcj.out.grown g)
  replace Hr2 := Lib.hid (Hr2.out.grown g)
  replace Hb2 := Lib.hid (Hb2.out.grown g)
  replace Hr5 := Lib.hid (Hr5.out.grown g)
  replace Hr7 := Lib.hid (Hr7.out.grown g)
  replace Hr9 := Lib.hid (Hr9.out.grown g)
  replace Hr11 := Lib.hid (Hr11.out.grown g)
  replace Hr13 := Lib.hid (Hr13.out.grown g)
  replace Hr15 := Lib.hid (Hr15.out.grown g)
  replace Hr17 := Lib.hid (Hr17.out.grown g)
  replace HB8 := Lib.hid (And.intro (World.grownBy.cell g HB8.out.1 (by simp)) (World.grownBy.cell g HB8.out.2 (by simp)))
  replace HB9 := Lib.hid (And.intro (World.grownBy.cell g HB9.out.1 (by simp)) (World.grownBy.cell g HB9.out.2 (by simp)))
  replace HB10 := Lib.hid (And.intro (World.grownBy.cell g HB10.out.1 (by simp)) (World.grownBy.cell g HB10.out.2 (by simp)))
  replace HB11 := Lib.hid (And.intro (World.grownBy.cell g HB11.out.1 (by simp)) (World.grownBy.cell g HB11.out.2 (by simp)))
  replace HB13 := Lib.hid (And.intro (World.grownBy.cell g HB13.out.1 (by simp)) (World.grownBy.cell g HB13.out.2 (by simp)))
  replace HB15 := Lib.hid (And.intro (World.grownBy.cell g HB15.out.1 (by simp)) (World.grownBy.cell g HB15.out.2 (by simp)))
  replace HRB := Lib.hid (And.intro (World.grownBy.cell g HRB.out.1 (by simp)) (And.intro (World.grownBy.cell g HRB.out.2.1 (by simp)) (And.intro (World.grownBy.cell g HRB.out.2.2.1 (by simp)) (And.intro (World.grownBy.cell g HRB.out.2.2.2.1 (by simp)) (World.grownBy.cell g HRB.out.2.2.2.2 (by simp))))))
  replace HR := Lib.hid (HR.out.grown g)
  replace HG := Lib.hid (World.grownBy.trans HG.out g)
  clear g
  have qB80 := HB8.out.1
  have qB81 := HB8.out.2
  have qB90 := HB9.out.1
  have qB91 := HB9.out.2
  have qB100 := HB10.out.1
  have qB101 := HB10.out.2
  have qB110 := HB11.out.1
  have qB111 := HB11.out.2
  have qB130 := HB13.out.1
  have qB131 := HB13.out.2
  have qB150 := HB15.out.1
  have qB151 := HB15.out.2
  have qr0 := HRB.out.1
  have qr1 := HRB.out.2.1
  have qr2 := HRB.out.2.2.1
  have qr3 := HRB.out.2.2.2.1
  have qr4 := HRB.out.2.2.2.2
  go_wp2_with fail
  clear qB80 qB81 qB90 qB91 qB100 qB101 qB110 qB111 qB130 qB131 qB150 qB151 qr0 qr1 qr2 qr3 qr4
  go_ret
  exact ⟨rfl, HG.out⟩

set_option maxRecDepth 100000 in
set_option maxHeartbeats 20000000 in
theorem validity_6 (N Ar : Nat) (A0 B0 C0 : List Nat) (aa ab ac : Option Addr) (ca cb cc : Nat) (z : Nat) (W0 : World) (h : RawAt W0 N Ar A0 B0 C0 aa ab ac ca cb cc) (hz : z < 256) (hs : 1 + Ar % 3 + (1 + z % 3) = 6) :
    Calls Try.prog 4 #[.agg #[.int .u8 (N : Int), .int .u8 (Ar : Int), .slice aa A0.length ca, .slice ab B0.length cb, .slice ac C0.length cc], .int .u8 (z : Int)] W0 fun e w' => e = .returned (.bool true) ∧ W0.grownBy w' none := by
  have hAr := h.hAr
  obtain ⟨n, hn⟩ : ∃ n, 1 + N % 5 = n := ⟨_, rfl⟩
  obtain ⟨k, hk⟩ : ∃ k, 1 + Ar % 3 = k := ⟨_, rfl⟩
  have hn1 : 1 ≤ n := by omega
  have hn5 : n ≤ 5 := by omega
  have hk1 : 1 ≤ k := by omega
  have hk3 : k ≤ 3 := by omega
  have hNN := Lib.hid hn; have hKK := Lib.hid hk
  clear hn hk hAr
  obtain ⟨r, hr⟩ : ∃ r, z % 3 = r := ⟨_, rfl⟩
  obtain ⟨j, hj⟩ : ∃ j, 1 + r = j := ⟨_, rfl⟩
  have hmod : (z : Int).tmod 3 = (r : Int) := by rw [Int.tmod_eq_emod_of_nonneg (by omega)]; omega
  have hwn : IntKind.i64.wrap (z : Int) = (z : Int) := IntWalk.i64_in _ (by omega)
  have hws : IntKind.i64.wrap (1 + (r : Int)) = (j : Int) := by rw [IntWalk.i64_in _ (by omega)]; omega
  have HJ3 := Lib.hid (And.intro hmod (And.intro hwn hws))
  have hj1 : 1 ≤ j := by omega
  have hj3 : j ≤ 3 := by omega
  have hkj : k + j = 6 := by rw [hr, hj] at hs; rw [← hKK.out]; exact hs
  have HKJ := Lib.hid (show IntKind.i64.wrap ((k : Int) + (j : Int)) = 6 from by rw [IntWalk.i64_in _ (by omega)]; omega)
  clear hmod hwn hws hj hr hs
  obtain ⟨L1, hL1⟩ : ∃ l : List Int, fromL n k A0 = l := ⟨_, rfl⟩
  have vL1 := Lib.hid (by rw [← hL1]; exact (VR.from n k A0 hn1) : VR n (k) L1)
  obtain ⟨lL1, hlL1⟩ : ∃ l, L1.length = l := ⟨_, rfl⟩
  have EL1 := Lib.hid hL1
  have ZL1 := Lib.hid hlL1
  clear hL1 hlL1
  obtain ⟨L2, hL2⟩ : ∃ l : List Int, fromL n k B0 = l := ⟨_, rfl⟩
  have vL2 := Lib.hid (by rw [← hL2]; exact (VR.from n k B0 hn1) : VR n (k) L2)
  obtain ⟨lL2, hlL2⟩ : ∃ l, L2.length = l := ⟨_, rfl⟩
  have EL2 := Lib.hid hL2
  have ZL2 := Lib.hid hlL2
  clear hL2 hlL2
  obtain ⟨L3, hL3⟩ : ∃ l : List Int, fromL n k C0 = l := ⟨_, rfl⟩
  have vL3 := Lib.hid (by rw [← hL3]; exact (VR.from n k C0 hn1) : VR n (k) L3)
  obtain ⟨lL3, hlL3⟩ : ∃ l, L3.length = l := ⟨_, rfl⟩
  have EL3 := Lib.hid hL3
  have ZL3 := Lib.hid hlL3
  clear hL3 hlL3
  obtain ⟨L4, hL4⟩ : ∃ l : List Int, fromL n j C0 = l := ⟨_, rfl⟩
  have vL4 := Lib.hid (by rw [← hL4]; exact VR.from n j C0 hn1 : VR n (j) L4)
  obtain ⟨lL4, hlL4⟩ : ∃ l, L4.length = l := ⟨_, rfl⟩
  have EL4 := Lib.hid hL4
  have ZL4 := Lib.hid hlL4
  clear hL4 hlL4
  obtain ⟨L5, hL5⟩ : ∃ l : List Int, fromL n 2 B0 = l := ⟨_, rfl⟩
  have vL5 := Lib.hid (by rw [← hL5]; exact VR.from n 2 B0 hn1 : VR n (2) L5)
  obtain ⟨lL5, hlL5⟩ : ∃ l, L5.length = l := ⟨_, rfl⟩
  have EL5 := Lib.hid hL5
  have ZL5 := Lib.hid hlL5
  clear hL5 hlL5
  obtain ⟨L6, hL6⟩ : ∃ l : List Int, unionL (fromL n k A0) (fromL n k B0) = l := ⟨_, rfl⟩
  have vL6 := Lib.hid (by rw [← hL6]; exact VR.union (by rw [EL1.out]; exact vL1.out) (by rw [EL2.out]; exact vL2.out) : VR n (k) L6)
  obtain ⟨lL6, hlL6⟩ : ∃ l, L6.length = l := ⟨_, rfl⟩
  have EL6 := Lib.hid hL6
  have ZL6 := Lib.hid hlL6
  clear hL6 hlL6
  obtain ⟨L7, hL7⟩ : ∃ l : List Int, interL (fromL n k A0) (fromL n k B0) = l := ⟨_, rfl⟩
  have vL7 := Lib.hid (by rw [← hL7]; exact VR.inter (by rw [EL1.out]; exact vL1.out) (by rw [EL2.out]; exact vL2.out) : VR n (k) L7)
  obtain ⟨lL7, hlL7⟩ : ∃ l, L7.length = l := ⟨_, rfl⟩
  have EL7 := Lib.hid hL7
  have ZL7 := Lib.hid hlL7
  clear hL7 hlL7
  obtain ⟨L8, hL8⟩ : ∃ l : List Int, diffL (fromL n k A0) (fromL n k B0) = l := ⟨_, rfl⟩
  have vL8 := Lib.hid (by rw [← hL8]; exact VR.diff (by rw [EL1.out]; exact vL1.out) (by rw [EL2.out]; exact vL2.out) : VR n (k) L8)
  obtain ⟨lL8, hlL8⟩ : ∃ l, L8.length = l := ⟨_, rfl⟩
  have EL8 := Lib.hid hL8
  have ZL8 := Lib.hid hlL8
  clear hL8 hlL8
  obtain ⟨L9, hL9⟩ : ∃ l : List Int, overL (n ^ (k - 1)) (fromL n k A0) (fromL n k B0) = l := ⟨_, rfl⟩
  have vL9 := Lib.hid (by rw [← hL9]; exact VR.over (by rw [EL1.out]; exact vL1.out) (by rw [EL2.out]; exact vL2.out) : VR n (k) L9)
  obtain ⟨lL9, hlL9⟩ : ∃ l, L9.length = l := ⟨_, rfl⟩
  have EL9 := Lib.hid hL9
  have ZL9 := Lib.hid hlL9
  clear hL9 hlL9
  obtain ⟨L10, hL10⟩ : ∃ l : List Int, uniq (turnL n (fromL n 2 B0)) = l := ⟨_, rfl⟩
  have vL10 := Lib.hid (by rw [← hL10]; exact VR.turn (by rw [EL5.out]; exact vL5.out) hn1 : VR n (2) L10)
  obtain ⟨lL10, hlL10⟩ : ∃ l, L10.length = l := ⟨_, rfl⟩
  have EL10 := Lib.hid hL10
  have ZL10 := Lib.hid hlL10
  clear hL10 hlL10
  obtain ⟨L11, hL11⟩ : ∃ l : List Int, uniq (closS n (fromL n 2 B0)) = l := ⟨_, rfl⟩
  have vL11 := Lib.hid (by rw [← hL11]; exact VR.clos (by rw [EL5.out]; exact vL5.out) : VR n (2) L11)
  obtain ⟨lL11, hlL11⟩ : ∃ l, L11.length = l := ⟨_, rfl⟩
  have EL11 := Lib.hid hL11
  have ZL11 := Lib.hid hlL11
  clear hL11 hlL11
  obtain ⟨L12, hL12⟩ : ∃ l : List Int, idenL n = l := ⟨_, rfl⟩
  have vL12 := Lib.hid (by rw [← hL12]; exact VR.iden n : VR n (2) L12)
  obtain ⟨lL12, hlL12⟩ : ∃ l, L12.length = l := ⟨_, rfl⟩
  have EL12 := Lib.hid hL12
  have ZL12 := Lib.hid hlL12
  clear hL12 hlL12
  obtain ⟨lA0, hlA0⟩ : ∃ l, A0.length = l := ⟨_, rfl⟩
  obtain ⟨lB0, hlB0⟩ : ∃ l, B0.length = l := ⟨_, rfl⟩
  obtain ⟨lC0, hlC0⟩ : ∃ l, C0.length = l := ⟨_, rfl⟩
  have ZA0 := Lib.hid hlA0; have ZB0 := Lib.hid hlB0; have ZC0 := Lib.hid hlC0
  rw [hlA0, hlB0, hlC0]
  clear hlA0 hlB0 hlC0
  have hg := World.grownBy_alloc W0 (.cells #[.int .u8 (N : Int), .int .u8 (Ar : Int), .slice aa lA0 ca, .slice ab lB0 cb, .slice ac lC0 cc] 24) none
  have hb0 : (W0.alloc (.cells #[.int .u8 (N : Int), .int .u8 (Ar : Int), .slice aa lA0 ca, .slice ab lB0 cb, .slice ac lC0 cc] 24)).cell? ⟨W0.heap.size, 0, none⟩ = some (.int .u8 (N : Int)) := by go_simp
  have hb1 : (W0.alloc (.cells #[.int .u8 (N : Int), .int .u8 (Ar : Int), .slice aa lA0 ca, .slice ab lB0 cb, .slice ac lC0 cc] 24)).cell? ⟨W0.heap.size, 1, none⟩ = some (.int .u8 (Ar : Int)) := by go_simp
  have hb2 : (W0.alloc (.cells #[.int .u8 (N : Int), .int .u8 (Ar : Int), .slice aa lA0 ca, .slice ab lB0 cb, .slice ac lC0 cc] 24)).cell? ⟨W0.heap.size, 2, none⟩ = some (.slice aa lA0 ca) := by go_simp
  have hb3 : (W0.alloc (.cells #[.int .u8 (N : Int), .int .u8 (Ar : Int), .slice aa lA0 ca, .slice ab lB0 cb, .slice ac lC0 cc] 24)).cell? ⟨W0.heap.size, 3, none⟩ = some (.slice ab lB0 cb) := by go_simp
  have hb4 : (W0.alloc (.cells #[.int .u8 (N : Int), .int .u8 (Ar : Int), .slice aa lA0 ca, .slice ab lB0 cb, .slice ac lC0 cc] 24)).cell? ⟨W0.heap.size, 4, none⟩ = some (.slice ac lC0 cc) := by go_simp
  obtain ⟨V0, hV0⟩ : ∃ V, W0.alloc (.cells #[.int .u8 (N : Int), .int .u8 (Ar : Int), .slice aa lA0 ca, .slice ab lB0 cb, .slice ac lC0 cc] 24) = V := ⟨_, rfl⟩
  rw [hV0] at hg hb0 hb1 hb2 hb3 hb4
  have HG := Lib.hid hg
  have HRB := Lib.hid (And.intro hb0 (And.intro hb1 (And.intro hb2 (And.intro hb3 hb4))))
  have HR := Lib.hid (h.grown hg)
  clear hg hb0 hb1 hb2 hb3 hb4 h
  go_enter Try.func4, Try.ntmps4
  have qr0 := HRB.out.1
  have qr1 := HRB.out.2.1
  have qr2 := HRB.out.2.2.1
  have qr3 := HRB.out.2.2.2.1
  have qr4 := HRB.out.2.2.2.2
  go_upto_region 1 with fail
  clear qr0 qr1 qr2 qr3 qr4
  clear hV0
  have qr0 := HRB.out.1
  have qr1 := HRB.out.2.1
  have qr2 := HRB.out.2.2.1
  have qr3 := HRB.out.2.2.2.1
  have qr4 := HRB.out.2.2.2.2
  go_wp2_with fail
  clear qr0 qr1 qr2 qr3 qr4
  refine (head_calls _).mono ?_
  rintro e V1 ⟨rfl, g⟩
  replace HRB := Lib.hid (And.intro (World.grownBy.cell g HRB.out.1 (by simp)) (And.intro (World.grownBy.cell g HRB.out.2.1 (by simp)) (And.intro (World.grownBy.cell g HRB.out.2.2.1 (by simp)) (And.intro (World.grownBy.cell g HRB.out.2.2.2.1 (by simp)) (World.grownBy.cell g HRB.out.2.2.2.2 (by simp))))))
  replace HR := Lib.hid (HR.out.grown g)
  replace HG := Lib.hid (World.grownBy.trans HG.out g)
  clear g
  have qr0 := HRB.out.1
  have qr1 := HRB.out.2.1
  have qr2 := HRB.out.2.2.1
  have qr3 := HRB.out.2.2.2.1
  have qr4 := HRB.out.2.2.2.2
  go_wp2_with fail
  clear qr0 qr1 qr2 qr3 qr4
  refine (threeV hNN.out hKK.out EL1.out EL2.out EL3.out ZA0.out ZB0.out ZC0.out ZL1.out ZL2.out ZL3.out _ HR.out).mono ?_
  rintro e V2 ⟨xa, xb, xc, ya, yb, yc, rfl, ia, ib, ic, g⟩
  replace HRB := Lib.hid (And.intro (World.grownBy.cell g HRB.out.1 (by simp)) (And.intro (World.grownBy.cell g HRB.out.2.1 (by simp)) (And.intro (World.grownBy.cell g HRB.out.2.2.1 (by simp)) (And.intro (World.grownBy.cell g HRB.out.2.2.2.1 (by simp)) (World.grownBy.cell g HRB.out.2.2.2.2 (by simp))))))
  replace HR := Lib.hid (HR.out.grown g)
  replace HG := Lib.hid (World.grownBy.trans HG.out g)
  clear g
  have Ha := Lib.hid ia; have Hb := Lib.hid ib; have Hc := Lib.hid ic
  clear ia ib ic
  have qr0 := HRB.out.1
  have qr1 := HRB.out.2.1
  have qr2 := HRB.out.2.2.1
  have qr3 := HRB.out.2.2.2.1
  have qr4 := HRB.out.2.2.2.2
  go_upto_region 3 with fail
  clear qr0 qr1 qr2 qr3 qr4
  have hs6 := (Six.new V2 (.int .i64 ((k : Nat) : Int)) (.slice xa lL1 ya) (.int .i64 ((k : Nat) : Int)) (.slice xb lL2 yb) (.int .i64 ((k : Nat) : Int)) (.slice xc lL3 yc) 29).1
  have g := World.grownBy_alloc V2 (.cells #[.int .i64 ((k : Nat) : Int), .slice xa lL1 ya, .int .i64 ((k : Nat) : Int), .slice xb lL2 yb, .int .i64 ((k : Nat) : Int), .slice xc lL3 yc] 29) none
  obtain ⟨V3, hV3⟩ : ∃ z, World.alloc V2 (.cells #[.int .i64 ((k : Nat) : Int), .slice xa lL1 ya, .int .i64 ((k : Nat) : Int), .slice xb lL2 yb, .int .i64 ((k : Nat) : Int), .slice xc lL3 yc] 29) = z := ⟨_, rfl⟩
  rw [hV3] at g hs6 ⊢
  clear hV3
  obtain ⟨bT, hb⟩ : ∃ b, V2.heap.size = b := ⟨_, rfl⟩
  rw [hb] at hs6 ⊢
  clear hb
  replace Ha := Lib.hid (Ha.out.grown g)
  replace Hb := Lib.hid (Hb.out.grown g)
  replace Hc := Lib.hid (Hc.out.grown g)
  replace HRB := Lib.hid (And.intro (World.grownBy.cell g HRB.out.1 (by simp)) (And.intro (World.grownBy.cell g HRB.out.2.1 (by simp)) (And.intro (World.grownBy.cell g HRB.out.2.2.1 (by simp)) (And.intro (World.grownBy.cell g HRB.out.2.2.2.1 (by simp)) (World.grownBy.cell g HRB.out.2.2.2.2 (by simp))))))
  replace HR := Lib.hid (HR.out.grown g)
  replace HG := Lib.hid (World.grownBy.trans HG.out g)
  clear g
  have HT := Lib.hid hs6
  clear hs6
  have qr0 := HRB.out.1
  have qr1 := HRB.out.2.1
  have qr2 := HRB.out.2.2.1
  have qr3 := HRB.out.2.2.2.1
  have qr4 := HRB.out.2.2.2.2
  have t0 := HT.out.1
  have t1 := HT.out.2.1
  have t2 := HT.out.2.2.1
  have t3 := HT.out.2.2.2.1
  have t4 := HT.out.2.2.2.2.1
  have t5 := HT.out.2.2.2.2.2
  go_upto_region 4 with fail
  clear qr0 qr1 qr2 qr3 qr4 t0 t1 t2 t3 t4 t5
  have hbx := one_cells V3 (.int .i64 (k : Nat)) (.slice xa lL1 ya) 27
  have g := World.grownBy_alloc V3 (.cells #[.int .i64 (k : Nat), .slice xa lL1 ya] 27) none
  obtain ⟨V4, hV4⟩ : ∃ z, World.alloc V3 (.cells #[.int .i64 (k : Nat), .slice xa lL1 ya] 27) = z := ⟨_, rfl⟩
  rw [hV4] at g hbx ⊢
  clear hV4
  obtain ⟨bB8, hb⟩ : ∃ b, V3.heap.size = b := ⟨_, rfl⟩
  rw [hb] at hbx ⊢
  clear hb
  replace Ha := Lib.hid (Ha.out.grown g)
  replace Hb := Lib.hid (Hb.out.grown g)
  replace Hc := Lib.hid (Hc.out.grown g)
  replace HRB := Lib.hid (And.intro (World.grownBy.cell g HRB.out.1 (by simp)) (And.intro (World.grownBy.cell g HRB.out.2.1 (by simp)) (And.intro (World.grownBy.cell g HRB.out.2.2.1 (by simp)) (And.intro (World.grownBy.cell g HRB.out.2.2.2.1 (by simp)) (World.grownBy.cell g HRB.out.2.2.2.2 (by simp))))))
  replace HR := Lib.hid (HR.out.grown g)
  replace HT := Lib.hid (And.intro (World.grownBy.cell g HT.out.1 (by simp)) (And.intro (World.grownBy.cell g HT.out.2.1 (by simp)) (And.intro (World.grownBy.cell g HT.out.2.2.1 (by simp)) (And.intro (World.grownBy.cell g HT.out.2.2.2.1 (by simp)) (And.intro (World.grownBy.cell g HT.out.2.2.2.2.1 (by simp)) (World.grownBy.cell g HT.out.2.2.2.2.2 (by simp)))))))
  replace HG := Lib.hid (World.grownBy.trans HG.out g)
  clear g
  have HB8 := Lib.hid (And.intro hbx.2.1 hbx.2.2.1)
  clear hbx
  have qB80 := HB8.out.1
  have qB81 := HB8.out.2
  have qr0 := HRB.out.1
  have qr1 := HRB.out.2.1
  have qr2 := HRB.out.2.2.1
  have qr3 := HRB.out.2.2.2.1
  have qr4 := HRB.out.2.2.2.2
  have t0 := HT.out.1
  have t1 := HT.out.2.1
  have t2 := HT.out.2.2.1
  have t3 := HT.out.2.2.2.1
  have t4 := HT.out.2.2.2.2.1
  have t5 := HT.out.2.2.2.2.2
  go_upto_region 5 with fail
  clear qB80 qB81 qr0 qr1 qr2 qr3 qr4 t0 t1 t2 t3 t4 t5
  have hbx := one_cells V4 (.int .i64 (k : Nat)) (.slice xb lL2 yb) 27
  have g := World.grownBy_alloc V4 (.cells #[.int .i64 (k : Nat), .slice xb lL2 yb] 27) none
  obtain ⟨V5, hV5⟩ : ∃ z, World.alloc V4 (.cells #[.int .i64 (k : Nat), .slice xb lL2 yb] 27) = z := ⟨_, rfl⟩
  rw [hV5] at g hbx ⊢
  clear hV5
  obtain ⟨bB9, hb⟩ : ∃ b, V4.heap.size = b := ⟨_, rfl⟩
  rw [hb] at hbx ⊢
  clear hb
  replace Ha := Lib.hid (Ha.out.grown g)
  replace Hb := Lib.hid (Hb.out.grown g)
  replace Hc := Lib.hid (Hc.out.grown g)
  replace HB8 := Lib.hid (And.intro (World.grownBy.cell g HB8.out.1 (by simp)) (World.grownBy.cell g HB8.out.2 (by simp)))
  replace HRB := Lib.hid (And.intro (World.grownBy.cell g HRB.out.1 (by simp)) (And.intro (World.grownBy.cell g HRB.out.2.1 (by simp)) (And.intro (World.grownBy.cell g HRB.out.2.2.1 (by simp)) (And.intro (World.grownBy.cell g HRB.out.2.2.2.1 (by simp)) (World.grownBy.cell g HRB.out.2.2.2.2 (by simp))))))
  replace HR := Lib.hid (HR.out.grown g)
  replace HT := Lib.hid (And.intro (World.grownBy.cell g HT.out.1 (by simp)) (And.intro (World.grownBy.cell g HT.out.2.1 (by simp)) (And.intro (World.grownBy.cell g HT.out.2.2.1 (by simp)) (And.intro (World.grownBy.cell g HT.out.2.2.2.1 (by simp)) (And.intro (World.grownBy.cell g HT.out.2.2.2.2.1 (by simp)) (World.grownBy.cell g HT.out.2.2.2.2.2 (by simp)))))))
  replace HG := Lib.hid (World.grownBy.trans HG.out g)
  clear g
  have HB9 := Lib.hid (And.intro hbx.2.1 hbx.2.2.1)
  clear hbx
  clear HT
  have hmod := HJ3.out.1
  have hwn := HJ3.out.2.1
  have hws := HJ3.out.2.2
  have qB80 := HB8.out.1
  have qB81 := HB8.out.2
  have qB90 := HB9.out.1
  have qB91 := HB9.out.2
  have qr0 := HRB.out.1
  have qr1 := HRB.out.2.1
  have qr2 := HRB.out.2.2.1
  have qr3 := HRB.out.2.2.2.1
  have qr4 := HRB.out.2.2.2.2
  go_wp2_with fail
  clear qB80 qB81 qB90 qB91 qr0 qr1 qr2 qr3 qr4
  refine (fromV (n := n) (k := j) hn1 hn5 hj3 HR.out.lC EL4.out ZC0.out ZL4.out _ _ _ HR.out.hC).mono ?_
  rintro e V6 ⟨xcj, ycj, rfl, hr, g⟩
  replace Ha := Lib.hid (Ha.out.grown g)
  replace Hb := Lib.hid (Hb.out.grown g)
  replace Hc := Lib.hid (Hc.out.grown g)
  replace HB8 := Lib.hid (And.intro (World.grownBy.cell g HB8.out.1 (by simp)) (World.grownBy.cell g HB8.out.2 (by simp)))
  replace HB9 := Lib.hid (And.intro (World.grownBy.cell g HB9.out.1 (by simp)) (World.grownBy.cell g HB9.out.2 (by simp)))
  replace HRB := Lib.hid (And.intro (World.grownBy.cell g HRB.out.1 (by simp)) (And.intro (World.grownBy.cell g HRB.out.2.1 (by simp)) (And.intro (World.grownBy.cell g HRB.out.2.2.1 (by simp)) (And.intro (World.grownBy.cell g HRB.out.2.2.2.1 (by simp)) (World.grownBy.cell g HRB.out.2.2.2.2 (by simp))))))
  replace HR := Lib.hid (HR.out.grown g)
  replace HG := Lib.hid (World.grownBy.trans HG.out g)
  clear g
  have Hcj := Lib.hid hr
  clear hr
  have qB80 := HB8.out.1
  have qB81 := HB8.out.2
  have qB90 := HB9.out.1
  have qB91 := HB9.out.2
  have qr0 := HRB.out.1
  have qr1 := HRB.out.2.1
  have qr2 := HRB.out.2.2.1
  have qr3 := HRB.out.2.2.2.1
  have qr4 := HRB.out.2.2.2.2
  go_upto_region 6 with fail
  clear qB80 qB81 qB90 qB91 qr0 qr1 qr2 qr3 qr4
  have hbx := one_cells V6 (.int .i64 (j : Nat)) (.slice xcj lL4 ycj) 27
  have g := World.grownBy_alloc V6 (.cells #[.int .i64 (j : Nat), .slice xcj lL4 ycj] 27) none
  obtain ⟨V7, hV7⟩ : ∃ z, World.alloc V6 (.cells #[.int .i64 (j : Nat), .slice xcj lL4 ycj] 27) = z := ⟨_, rfl⟩
  rw [hV7] at g hbx ⊢
  clear hV7
  obtain ⟨bB10, hb⟩ : ∃ b, V6.heap.size = b := ⟨_, rfl⟩
  rw [hb] at hbx ⊢
  clear hb
  replace Ha := Lib.hid (Ha.out.grown g)
  replace Hb := Lib.hid (Hb.out.grown g)
  replace Hc := Lib.hid (Hc.out.grown g)
  replace Hcj := Lib.hid (Hcj.out.grown g)
  replace HB8 := Lib.hid (And.intro (World.grownBy.cell g HB8.out.1 (by simp)) (World.grownBy.cell g HB8.out.2 (by simp)))
  replace HB9 := Lib.hid (And.intro (World.grownBy.cell g HB9.out.1 (by simp)) (World.grownBy.cell g HB9.out.2 (by simp)))
  replace HRB := Lib.hid (And.intro (World.grownBy.cell g HRB.out.1 (by simp)) (And.intro (World.grownBy.cell g HRB.out.2.1 (by simp)) (And.intro (World.grownBy.cell g HRB.out.2.2.1 (by simp)) (And.intro (World.grownBy.cell g HRB.out.2.2.2.1 (by simp)) (World.grownBy.cell g HRB.out.2.2.2.2 (by simp))))))
  replace HR := Lib.hid (HR.out.grown g)
  replace HG := Lib.hid (World.grownBy.trans HG.out g)
  clear g
  have HB10 := Lib.hid (And.intro hbx.2.1 hbx.2.2.1)
  clear hbx
  clear hmod hwn hws
  have qB80 := HB8.out.1
  have qB81 := HB8.out.2
  have qB90 := HB9.out.1
  have qB91 := HB9.out.2
  have qB100 := HB10.out.1
  have qB101 := HB10.out.2
  have qr0 := HRB.out.1
  have qr1 := HRB.out.2.1
  have qr2 := HRB.out.2.2.1
  have qr3 := HRB.out.2.2.2.1
  have qr4 := HRB.out.2.2.2.2
  go_wp2_with fail
  clear qB80 qB81 qB90 qB91 qB100 qB101 qr0 qr1 qr2 qr3 qr4
  refine (prodOdd (n := n) (k := k) (j := j) (A := L1) (B := L4) (by omega) hk3 hj3 ZL1.out ZL4.out _ _ _ _ _).mono ?_
  rintro e V8 ⟨rfl, g⟩
  replace Ha := Lib.hid (Ha.out.grown g)
  replace Hb := Lib.hid (Hb.out.grown g)
  replace Hc := Lib.hid (Hc.out.grown g)
  replace Hcj := Lib.hid (Hcj.out.grown g)
  replace HB8 := Lib.hid (And.intro (World.grownBy.cell g HB8.out.1 (by simp)) (World.grownBy.cell g HB8.out.2 (by simp)))
  replace HB9 := Lib.hid (And.intro (World.grownBy.cell g HB9.out.1 (by simp)) (World.grownBy.cell g HB9.out.2 (by simp)))
  replace HB10 := Lib.hid (And.intro (World.grownBy.cell g HB10.out.1 (by simp)) (World.grownBy.cell g HB10.out.2 (by simp)))
  replace HRB := Lib.hid (And.intro (World.grownBy.cell g HRB.out.1 (by simp)) (And.intro (World.grownBy.cell g HRB.out.2.1 (by simp)) (And.intro (World.grownBy.cell g HRB.out.2.2.1 (by simp)) (And.intro (World.grownBy.cell g HRB.out.2.2.2.1 (by simp)) (World.grownBy.cell g HRB.out.2.2.2.2 (by simp))))))
  replace HR := Lib.hid (HR.out.grown g)
  replace HG := Lib.hid (World.grownBy.trans HG.out g)
  clear g
  have qB80 := HB8.out.1
  have qB81 := HB8.out.2
  have qB90 := HB9.out.1
  have qB91 := HB9.out.2
  have qB100 := HB10.out.1
  have qB101 := HB10.out.2
  have qr0 := HRB.out.1
  have qr1 := HRB.out.2.1
  have qr2 := HRB.out.2.2.1
  have qr3 := HRB.out.2.2.2.1
  have qr4 := HRB.out.2.2.2.2
  go_upto_region 7 with fail
  clear qB80 qB81 qB90 qB91 qB100 qB101 qr0 qr1 qr2 qr3 qr4
  have hbx := one_cells V8 (.int .i64 0) (.slice none 0 0) 27
  have g := World.grownBy_alloc V8 (.cells #[.int .i64 0, .slice none 0 0] 27) none
  obtain ⟨V9, hV9⟩ : ∃ z, World.alloc V8 (.cells #[.int .i64 0, .slice none 0 0] 27) = z := ⟨_, rfl⟩
  rw [hV9] at g hbx ⊢
  clear hV9
  obtain ⟨bB11, hb⟩ : ∃ b, V8.heap.size = b := ⟨_, rfl⟩
  rw [hb] at hbx ⊢
  clear hb
  replace Ha := Lib.hid (Ha.out.grown g)
  replace Hb := Lib.hid (Hb.out.grown g)
  replace Hc := Lib.hid (Hc.out.grown g)
  replace Hcj := Lib.hid (Hcj.out.grown g)
  replace HB8 := Lib.hid (And.intro (World.grownBy.cell g HB8.out.1 (by simp)) (World.grownBy.cell g HB8.out.2 (by simp)))
  replace HB9 := Lib.hid (And.intro (World.grownBy.cell g HB9.out.1 (by simp)) (World.grownBy.cell g HB9.out.2 (by simp)))
  replace HB10 := Lib.hid (And.intro (World.grownBy.cell g HB10.out.1 (by simp)) (World.grownBy.cell g HB10.out.2 (by simp)))
  replace HRB := Lib.hid (And.intro (World.grownBy.cell g HRB.out.1 (by simp)) (And.intro (World.grownBy.cell g HRB.out.2.1 (by simp)) (And.intro (World.grownBy.cell g HRB.out.2.2.1 (by simp)) (And.intro (World.grownBy.cell g HRB.out.2.2.2.1 (by simp)) (World.grownBy.cell g HRB.out.2.2.2.2 (by simp))))))
  replace HR := Lib.hid (HR.out.grown g)
  replace HG := Lib.hid (World.grownBy.trans HG.out g)
  clear g
  have HB11 := Lib.hid (And.intro hbx.2.1 hbx.2.2.1)
  clear hbx
  have qB80 := HB8.out.1
  have qB81 := HB8.out.2
  have qB90 := HB9.out.1
  have qB91 := HB9.out.2
  have qB100 := HB10.out.1
  have qB101 := HB10.out.2
  have qB110 := HB11.out.1
  have qB111 := HB11.out.2
  have qr0 := HRB.out.1
  have qr1 := HRB.out.2.1
  have qr2 := HRB.out.2.2.1
  have qr3 := HRB.out.2.2.2.1
  have qr4 := HRB.out.2.2.2.2
  go_wp2_with fail
  clear qB80 qB81 qB90 qB91 qB100 qB101 qB110 qB111 qr0 qr1 qr2 qr3 qr4
  refine (joinOdd (n := n) (k := k) (j := j) (A := L1) (B := L4) (by omega) hk3 hj3 ZL1.out ZL4.out _ _ _ _ _).mono ?_
  rintro e V10 ⟨rfl, g⟩
  replace Ha := Lib.hid (Ha.out.grown g)
  replace Hb := Lib.hid (Hb.out.grown g)
  replace Hc := Lib.hid (Hc.out.grown g)
  replace Hcj := Lib.hid (Hcj.out.grown g)
  replace HB8 := Lib.hid (And.intro (World.grownBy.cell g HB8.out.1 (by simp)) (World.grownBy.cell g HB8.out.2 (by simp)))
  replace HB9 := Lib.hid (And.intro (World.grownBy.cell g HB9.out.1 (by simp)) (World.grownBy.cell g HB9.out.2 (by simp)))
  replace HB10 := Lib.hid (And.intro (World.grownBy.cell g HB10.out.1 (by simp)) (World.grownBy.cell g HB10.out.2 (by simp)))
  replace HB11 := Lib.hid (And.intro (World.grownBy.cell g HB11.out.1 (by simp)) (World.grownBy.cell g HB11.out.2 (by simp)))
  replace HRB := Lib.hid (And.intro (World.grownBy.cell g HRB.out.1 (by simp)) (And.intro (World.grownBy.cell g HRB.out.2.1 (by simp)) (And.intro (World.grownBy.cell g HRB.out.2.2.1 (by simp)) (And.intro (World.grownBy.cell g HRB.out.2.2.2.1 (by simp)) (World.grownBy.cell g HRB.out.2.2.2.2 (by simp))))))
  replace HR := Lib.hid (HR.out.grown g)
  replace HG := Lib.hid (World.grownBy.trans HG.out g)
  clear g
  have qB80 := HB8.out.1
  have qB81 := HB8.out.2
  have qB90 := HB9.out.1
  have qB91 := HB9.out.2
  have qB100 := HB10.out.1
  have qB101 := HB10.out.2
  have qB110 := HB11.out.1
  have qB111 := HB11.out.2
  have qr0 := HRB.out.1
  have qr1 := HRB.out.2.1
  have qr2 := HRB.out.2.2.1
  have qr3 := HRB.out.2.2.2.1
  have qr4 := HRB.out.2.2.2.2
  go_upto_region 8 with fail
  clear qB80 qB81 qB90 qB91 qB100 qB101 qB110 qB111 qr0 qr1 qr2 qr3 qr4
  have hbx := one_cells V10 (.int .i64 0) (.slice none 0 0) 27
  have g := World.grownBy_alloc V10 (.cells #[.int .i64 0, .slice none 0 0] 27) none
  obtain ⟨V11, hV11⟩ : ∃ z, World.alloc V10 (.cells #[.int .i64 0, .slice none 0 0] 27) = z := ⟨_, rfl⟩
  rw [hV11] at g hbx ⊢
  clear hV11
  obtain ⟨bB13, hb⟩ : ∃ b, V10.heap.size = b := ⟨_, rfl⟩
  rw [hb] at hbx ⊢
  clear hb
  replace Ha := Lib.hid (Ha.out.grown g)
  replace Hb := Lib.hid (Hb.out.grown g)
  replace Hc := Lib.hid (Hc.out.grown g)
  replace Hcj := Lib.hid (Hcj.out.grown g)
  replace HB8 := Lib.hid (And.intro (World.grownBy.cell g HB8.out.1 (by simp)) (World.grownBy.cell g HB8.out.2 (by simp)))
  replace HB9 := Lib.hid (And.intro (World.grownBy.cell g HB9.out.1 (by simp)) (World.grownBy.cell g HB9.out.2 (by simp)))
  replace HB10 := Lib.hid (And.intro (World.grownBy.cell g HB10.out.1 (by simp)) (World.grownBy.cell g HB10.out.2 (by simp)))
  replace HB11 := Lib.hid (And.intro (World.grownBy.cell g HB11.out.1 (by simp)) (World.grownBy.cell g HB11.out.2 (by simp)))
  replace HRB := Lib.hid (And.intro (World.grownBy.cell g HRB.out.1 (by simp)) (And.intro (World.grownBy.cell g HRB.out.2.1 (by simp)) (And.intro (World.grownBy.cell g HRB.out.2.2.1 (by simp)) (And.intro (World.grownBy.cell g HRB.out.2.2.2.1 (by simp)) (World.grownBy.cell g HRB.out.2.2.2.2 (by simp))))))
  replace HR := Lib.hid (HR.out.grown g)
  replace HG := Lib.hid (World.grownBy.trans HG.out g)
  clear g
  have HB13 := Lib.hid (And.intro hbx.2.1 hbx.2.2.1)
  clear hbx
  have hkjw := HKJ.out
  have qB80 := HB8.out.1
  have qB81 := HB8.out.2
  have qB90 := HB9.out.1
  have qB91 := HB9.out.2
  have qB100 := HB10.out.1
  have qB101 := HB10.out.2
  have qB110 := HB11.out.1
  have qB111 := HB11.out.2
  have qB130 := HB13.out.1
  have qB131 := HB13.out.2
  have qr0 := HRB.out.1
  have qr1 := HRB.out.2.1
  have qr2 := HRB.out.2.2.1
  have qr3 := HRB.out.2.2.2.1
  have qr4 := HRB.out.2.2.2.2
  go_upto_region 10 with fail
  clear qB80 qB81 qB90 qB91 qB100 qB101 qB110 qB111 qB130 qB131 qr0 qr1 qr2 qr3 qr4
  clear hkjw
  have qB80 := HB8.out.1
  have qB81 := HB8.out.2
  have qB90 := HB9.out.1
  have qB91 := HB9.out.2
  have qB100 := HB10.out.1
  have qB101 := HB10.out.2
  have qB110 := HB11.out.1
  have qB111 := HB11.out.2
  have qB130 := HB13.out.1
  have qB131 := HB13.out.2
  have qr0 := HRB.out.1
  have qr1 := HRB.out.2.1
  have qr2 := HRB.out.2.2.1
  have qr3 := HRB.out.2.2.2.1
  have qr4 := HRB.out.2.2.2.2
  go_upto_region 12 with fail
  clear qB80 qB81 qB90 qB91 qB100 qB101 qB110 qB111 qB130 qB131 qr0 qr1 qr2 qr3 qr4
  have qB80 := HB8.out.1
  have qB81 := HB8.out.2
  have qB90 := HB9.out.1
  have qB91 := HB9.out.2
  have qB100 := HB10.out.1
  have qB101 := HB10.out.2
  have qB110 := HB11.out.1
  have qB111 := HB11.out.2
  have qB130 := HB13.out.1
  have qB131 := HB13.out.2
  have qr0 := HRB.out.1
  have qr1 := HRB.out.2.1
  have qr2 := HRB.out.2.2.1
  have qr3 := HRB.out.2.2.2.1
  have qr4 := HRB.out.2.2.2.2
  go_wp2_with fail
  clear qB80 qB81 qB90 qB91 qB100 qB101 qB110 qB111 qB130 qB131 qr0 qr1 qr2 qr3 qr4
  refine (fromV (n := n) (k := 2) hn1 hn5 (by omega) HR.out.lB EL5.out ZB0.out ZL5.out _ _ _ HR.out.hB).mono ?_
  rintro e V12 ⟨xb2, yb2, rfl, hr, g⟩
  replace Ha := Lib.hid (Ha.out.grown g)
  replace Hb := Lib.hid (Hb.out.grown g)
  replace Hc := Lib.hid (Hc.out.grown g)
  replace Hcj := Lib.hid (Hcj.out.grown g)
  replace HB8 := Lib.hid (And.intro (World.grownBy.cell g HB8.out.1 (by simp)) (World.grownBy.cell g HB8.out.2 (by simp)))
  replace HB9 := Lib.hid (And.intro (World.grownBy.cell g HB9.out.1 (by simp)) (World.grownBy.cell g HB9.out.2 (by simp)))
  replace HB10 := Lib.hid (And.intro (World.grownBy.cell g HB10.out.1 (by simp)) (World.grownBy.cell g HB10.out.2 (by simp)))
  replace HB11 := Lib.hid (And.intro (World.grownBy.cell g HB11.out.1 (by simp)) (World.grownBy.cell g HB11.out.2 (by simp)))
  replace HB13 := Lib.hid (And.intro (World.grownBy.cell g HB13.out.1 (by simp)) (World.grownBy.cell g HB13.out.2 (by simp)))
  replace HRB := Lib.hid (And.intro (World.grownBy.cell g HRB.out.1 (by simp)) (And.intro (World.grownBy.cell g HRB.out.2.1 (by simp)) (And.intro (World.grownBy.cell g HRB.out.2.2.1 (by simp)) (And.intro (World.grownBy.cell g HRB.out.2.2.2.1 (by simp)) (World.grownBy.cell g HRB.out.2.2.2.2 (by simp))))))
  replace HR := Lib.hid (HR.out.grown g)
  replace HG := Lib.hid (World.grownBy.trans HG.out g)
  clear g
  have Hb2 := Lib.hid hr
  clear hr
  have qB80 := HB8.out.1
  have qB81 := HB8.out.2
  have qB90 := HB9.out.1
  have qB91 := HB9.out.2
  have qB100 := HB10.out.1
  have qB101 := HB10.out.2
  have qB110 := HB11.out.1
  have qB111 := HB11.out.2
  have qB130 := HB13.out.1
  have qB131 := HB13.out.2
  have qr0 := HRB.out.1
  have qr1 := HRB.out.2.1
  have qr2 := HRB.out.2.2.1
  have qr3 := HRB.out.2.2.2.1
  have qr4 := HRB.out.2.2.2.2
  go_upto_region 13 with fail
  clear qB80 qB81 qB90 qB91 qB100 qB101 qB110 qB111 qB130 qB131 qr0 qr1 qr2 qr3 qr4
  have hbx := one_cells V12 (.int .i64 2) (.slice xb2 lL5 yb2) 27
  have g := World.grownBy_alloc V12 (.cells #[.int .i64 2, .slice xb2 lL5 yb2] 27) none
  obtain ⟨V13, hV13⟩ : ∃ z, World.alloc V12 (.cells #[.int .i64 2, .slice xb2 lL5 yb2] 27) = z := ⟨_, rfl⟩
  rw [hV13] at g hbx ⊢
  clear hV13
  obtain ⟨bB15, hb⟩ : ∃ b, V12.heap.size = b := ⟨_, rfl⟩
  rw [hb] at hbx ⊢
  clear hb
  replace Ha := Lib.hid (Ha.out.grown g)
  replace Hb := Lib.hid (Hb.out.grown g)
  replace Hc := Lib.hid (Hc.out.grown g)
  replace Hcj := Lib.hid (Hcj.out.grown g)
  replace Hb2 := Lib.hid (Hb2.out.grown g)
  replace HB8 := Lib.hid (And.intro (World.grownBy.cell g HB8.out.1 (by simp)) (World.grownBy.cell g HB8.out.2 (by simp)))
  replace HB9 := Lib.hid (And.intro (World.grownBy.cell g HB9.out.1 (by simp)) (World.grownBy.cell g HB9.out.2 (by simp)))
  replace HB10 := Lib.hid (And.intro (World.grownBy.cell g HB10.out.1 (by simp)) (World.grownBy.cell g HB10.out.2 (by simp)))
  replace HB11 := Lib.hid (And.intro (World.grownBy.cell g HB11.out.1 (by simp)) (World.grownBy.cell g HB11.out.2 (by simp)))
  replace HB13 := Lib.hid (And.intro (World.grownBy.cell g HB13.out.1 (by simp)) (World.grownBy.cell g HB13.out.2 (by simp)))
  replace HRB := Lib.hid (And.intro (World.grownBy.cell g HRB.out.1 (by simp)) (And.intro (World.grownBy.cell g HRB.out.2.1 (by simp)) (And.intro (World.grownBy.cell g HRB.out.2.2.1 (by simp)) (And.intro (World.grownBy.cell g HRB.out.2.2.2.1 (by simp)) (World.grownBy.cell g HRB.out.2.2.2.2 (by simp))))))
  replace HR := Lib.hid (HR.out.grown g)
  replace HG := Lib.hid (World.grownBy.trans HG.out g)
  clear g
  have HB15 := Lib.hid (And.intro hbx.2.1 hbx.2.2.1)
  clear hbx
  have qB80 := HB8.out.1
  have qB81 := HB8.out.2
  have qB90 := HB9.out.1
  have qB91 := HB9.out.2
  have qB100 := HB10.out.1
  have qB101 := HB10.out.2
  have qB110 := HB11.out.1
  have qB111 := HB11.out.2
  have qB130 := HB13.out.1
  have qB131 := HB13.out.2
  have qB150 := HB15.out.1
  have qB151 := HB15.out.2
  have qr0 := HRB.out.1
  have qr1 := HRB.out.2.1
  have qr2 := HRB.out.2.2.1
  have qr3 := HRB.out.2.2.2.1
  have qr4 := HRB.out.2.2.2.2
  go_wp2_with fail
  clear qB80 qB81 qB90 qB91 qB100 qB101 qB110 qB111 qB130 qB131 qB150 qB151 qr0 qr1 qr2 qr3 qr4
  refine (validV (k := k) vL1.out hn5 hk1 hk3 ZL1.out _ _ _ Ha.out).mono ?_
  rintro e V14 ⟨rfl, g⟩
  replace Ha := Lib.hid (Ha.out.grown g)
  replace Hb := Lib.hid (Hb.out.grown g)
  replace Hc := Lib.hid (Hc.out.grown g)
  replace Hcj := Lib.hid (Hcj.out.grown g)
  replace Hb2 := Lib.hid (Hb2.out.grown g)
  replace HB8 := Lib.hid (And.intro (World.grownBy.cell g HB8.out.1 (by simp)) (World.grownBy.cell g HB8.out.2 (by simp)))
  replace HB9 := Lib.hid (And.intro (World.grownBy.cell g HB9.out.1 (by simp)) (World.grownBy.cell g HB9.out.2 (by simp)))
  replace HB10 := Lib.hid (And.intro (World.grownBy.cell g HB10.out.1 (by simp)) (World.grownBy.cell g HB10.out.2 (by simp)))
  replace HB11 := Lib.hid (And.intro (World.grownBy.cell g HB11.out.1 (by simp)) (World.grownBy.cell g HB11.out.2 (by simp)))
  replace HB13 := Lib.hid (And.intro (World.grownBy.cell g HB13.out.1 (by simp)) (World.grownBy.cell g HB13.out.2 (by simp)))
  replace HB15 := Lib.hid (And.intro (World.grownBy.cell g HB15.out.1 (by simp)) (World.grownBy.cell g HB15.out.2 (by simp)))
  replace HRB := Lib.hid (And.intro (World.grownBy.cell g HRB.out.1 (by simp)) (And.intro (World.grownBy.cell g HRB.out.2.1 (by simp)) (And.intro (World.grownBy.cell g HRB.out.2.2.1 (by simp)) (And.intro (World.grownBy.cell g HRB.out.2.2.2.1 (by simp)) (World.grownBy.cell g HRB.out.2.2.2.2 (by simp))))))
  replace HR := Lib.hid (HR.out.grown g)
  replace HG := Lib.hid (World.grownBy.trans HG.out g)
  clear g
  have qB80 := HB8.out.1
  have qB81 := HB8.out.2
  have qB90 := HB9.out.1
  have qB91 := HB9.out.2
  have qB100 := HB10.out.1
  have qB101 := HB10.out.2
  have qB110 := HB11.out.1
  have qB111 := HB11.out.2
  have qB130 := HB13.out.1
  have qB131 := HB13.out.2
  have qB150 := HB15.out.1
  have qB151 := HB15.out.2
  have qr0 := HRB.out.1
  have qr1 := HRB.out.2.1
  have qr2 := HRB.out.2.2.1
  have qr3 := HRB.out.2.2.2.1
  have qr4 := HRB.out.2.2.2.2
  go_wp2_with fail
  clear qB80 qB81 qB90 qB91 qB100 qB101 qB110 qB111 qB130 qB131 qB150 qB151 qr0 qr1 qr2 qr3 qr4
  refine (unionV (k : Nat) (k : Nat) vL1.out vL2.out hn5 hk3 (by rw [← EL1.out, ← EL2.out]; exact EL6.out) ZL1.out ZL2.out ZL6.out _ _ _ _ _ Ha.out Hb.out).mono ?_
  rintro e V15 ⟨xr4, yr4, rfl, hr, g⟩
  replace Ha := Lib.hid (Ha.out.grown g)
  replace Hb := Lib.hid (Hb.out.grown g)
  replace Hc := Lib.hid (Hc.out.grown g)
  replace Hcj := Lib.hid (Hcj.out.grown g)
  replace Hb2 := Lib.hid (Hb2.out.grown g)
  replace HB8 := Lib.hid (And.intro (World.grownBy.cell g HB8.out.1 (by simp)) (World.grownBy.cell g HB8.out.2 (by simp)))
  replace HB9 := Lib.hid (And.intro (World.grownBy.cell g HB9.out.1 (by simp)) (World.grownBy.cell g HB9.out.2 (by simp)))
  replace HB10 := Lib.hid (And.intro (World.grownBy.cell g HB10.out.1 (by simp)) (World.grownBy.cell g HB10.out.2 (by simp)))
  replace HB11 := Lib.hid (And.intro (World.grownBy.cell g HB11.out.1 (by simp)) (World.grownBy.cell g HB11.out.2 (by simp)))
  replace HB13 := Lib.hid (And.intro (World.grownBy.cell g HB13.out.1 (by simp)) (World.grownBy.cell g HB13.out.2 (by simp)))
  replace HB15 := Lib.hid (And.intro (World.grownBy.cell g HB15.out.1 (by simp)) (World.grownBy.cell g HB15.out.2 (by simp)))
  replace HRB := Lib.hid (And.intro (World.grownBy.cell g HRB.out.1 (by simp)) (And.intro (World.grownBy.cell g HRB.out.2.1 (by simp)) (And.intro (World.grownBy.cell g HRB.out.2.2.1 (by simp)) (And.intro (World.grownBy.cell g HRB.out.2.2.2.1 (by simp)) (World.grownBy.cell g HRB.out.2.2.2.2 (by simp))))))
  replace HR := Lib.hid (HR.out.grown g)
  replace HG := Lib.hid (World.grownBy.trans HG.out g)
  clear g
  have Hr4 := Lib.hid hr
  clear hr
  have qB80 := HB8.out.1
  have qB81 := HB8.out.2
  have qB90 := HB9.out.1
  have qB91 := HB9.out.2
  have qB100 := HB10.out.1
  have qB101 := HB10.out.2
  have qB110 := HB11.out.1
  have qB111 := HB11.out.2
  have qB130 := HB13.out.1
  have qB131 := HB13.out.2
  have qB150 := HB15.out.1
  have qB151 := HB15.out.2
  have qr0 := HRB.out.1
  have qr1 := HRB.out.2.1
  have qr2 := HRB.out.2.2.1
  have qr3 := HRB.out.2.2.2.1
  have qr4 := HRB.out.2.2.2.2
  go_wp2_with fail
  clear qB80 qB81 qB90 qB91 qB100 qB101 qB110 qB111 qB130 qB131 qB150 qB151 qr0 qr1 qr2 qr3 qr4
  refine (validV (k := k) vL6.out hn5 hk1 hk3 ZL6.out _ _ _ Hr4.out).mono ?_
  rintro e V16 ⟨rfl, g⟩
  replace Ha := Lib.hid (Ha.out.grown g)
  replace Hb := Lib.hid (Hb.out.grown g)
  replace Hc := Lib.hid (Hc.out.grown g)
  replace Hcj := Lib.hid (Hcj.out.grown g)
  replace Hb2 := Lib.hid (Hb2.out.grown g)
  replace Hr4 := Lib.hid (Hr4.out.grown g)
  replace HB8 := Lib.hid (And.intro (World.grownBy.cell g HB8.out.1 (by simp)) (World.grownBy.cell g HB8.out.2 (by simp)))
  replace HB9 := Lib.hid (And.intro (World.grownBy.cell g HB9.out.1 (by simp)) (World.grownBy.cell g HB9.out.2 (by simp)))
  replace HB10 := Lib.hid (And.intro (World.grownBy.cell g HB10.out.1 (by simp)) (World.grownBy.cell g HB10.out.2 (by simp)))
  replace HB11 := Lib.hid (And.intro (World.grownBy.cell g HB11.out.1 (by simp)) (World.grownBy.cell g HB11.out.2 (by simp)))
  replace HB13 := Lib.hid (And.intro (World.grownBy.cell g HB13.out.1 (by simp)) (World.grownBy.cell g HB13.out.2 (by simp)))
  replace HB15 := Lib.hid (And.intro (World.grownBy.cell g HB15.out.1 (by simp)) (World.grownBy.cell g HB15.out.2 (by simp)))
  replace HRB := Lib.hid (And.intro (World.grownBy.cell g HRB.out.1 (by simp)) (And.intro (World.grownBy.cell g HRB.out.2.1 (by simp)) (And.intro (World.grownBy.cell g HRB.out.2.2.1 (by simp)) (And.intro (World.grownBy.cell g HRB.out.2.2.2.1 (by simp)) (World.grownBy.cell g HRB.out.2.2.2.2 (by simp))))))
  replace HR := Lib.hid (HR.out.grown g)
  replace HG := Lib.hid (World.grownBy.trans HG.out g)
  clear g
  have qB80 := HB8.out.1
  have qB81 := HB8.out.2
  have qB90 := HB9.out.1
  have qB91 := HB9.out.2
  have qB100 := HB10.out.1
  have qB101 := HB10.out.2
  have qB110 := HB11.out.1
  have qB111 := HB11.out.2
  have qB130 := HB13.out.1
  have qB131 := HB13.out.2
  have qB150 := HB15.out.1
  have qB151 := HB15.out.2
  have qr0 := HRB.out.1
  have qr1 := HRB.out.2.1
  have qr2 := HRB.out.2.2.1
  have qr3 := HRB.out.2.2.2.1
  have qr4 := HRB.out.2.2.2.2
  go_wp2_with fail
  clear qB80 qB81 qB90 qB91 qB100 qB101 qB110 qB111 qB130 qB131 qB150 qB151 qr0 qr1 qr2 qr3 qr4
  refine (interV (k : Nat) (k : Nat) vL1.out vL2.out hn5 hk3 (by rw [← EL1.out, ← EL2.out]; exact EL7.out) ZL1.out ZL2.out ZL7.out _ _ _ _ _ Ha.out Hb.out).mono ?_
  rintro e V17 ⟨xr6, yr6, rfl, hr, g⟩
  replace Ha := Lib.hid (Ha.out.grown g)
  replace Hb := Lib.hid (Hb.out.grown g)
  replace Hc := Lib.hid (Hc.out.grown g)
  replace Hcj := Lib.hid (Hcj.out.grown g)
  replace Hb2 := Lib.hid (Hb2.out.grown g)
  replace Hr4 := Lib.hid (Hr4.out.grown g)
  replace HB8 := Lib.hid (And.intro (World.grownBy.cell g HB8.out.1 (by simp)) (World.grownBy.cell g HB8.out.2 (by simp)))
  replace HB9 := Lib.hid (And.intro (World.grownBy.cell g HB9.out.1 (by simp)) (World.grownBy.cell g HB9.out.2 (by simp)))
  replace HB10 := Lib.hid (And.intro (World.grownBy.cell g HB10.out.1 (by simp)) (World.grownBy.cell g HB10.out.2 (by simp)))
  replace HB11 := Lib.hid (And.intro (World.grownBy.cell g HB11.out.1 (by simp)) (World.grownBy.cell g HB11.out.2 (by simp)))
  replace HB13 := Lib.hid (And.intro (World.grownBy.cell g HB13.out.1 (by simp)) (World.grownBy.cell g HB13.out.2 (by simp)))
  replace HB15 := Lib.hid (And.intro (World.grownBy.cell g HB15.out.1 (by simp)) (World.grownBy.cell g HB15.out.2 (by simp)))
  replace HRB := Lib.hid (And.intro (World.grownBy.cell g HRB.out.1 (by simp)) (And.intro (World.grownBy.cell g HRB.out.2.1 (by simp)) (And.intro (World.grownBy.cell g HRB.out.2.2.1 (by simp)) (And.intro (World.grownBy.cell g HRB.out.2.2.2.1 (by simp)) (World.grownBy.cell g HRB.out.2.2.2.2 (by simp))))))
  replace HR := Lib.hid (HR.out.grown g)
  replace HG := Lib.hid (World.grownBy.trans HG.out g)
  clear g
  have Hr6 := Lib.hid hr
  clear hr
  have qB80 := HB8.out.1
  have qB81 := HB8.out.2
  have qB90 := HB9.out.1
  have qB91 := HB9.out.2
  have qB100 := HB10.out.1
  have qB101 := HB10.out.2
  have qB110 := HB11.out.1
  have qB111 := HB11.out.2
  have qB130 := HB13.out.1
  have qB131 := HB13.out.2
  have qB150 := HB15.out.1
  have qB151 := HB15.out.2
  have qr0 := HRB.out.1
  have qr1 := HRB.out.2.1
  have qr2 := HRB.out.2.2.1
  have qr3 := HRB.out.2.2.2.1
  have qr4 := HRB.out.2.2.2.2
  go_wp2_with fail
  clear qB80 qB81 qB90 qB91 qB100 qB101 qB110 qB111 qB130 qB131 qB150 qB151 qr0 qr1 qr2 qr3 qr4
  refine (validV (k := k) vL7.out hn5 hk1 hk3 ZL7.out _ _ _ Hr6.out).mono ?_
  rintro e V18 ⟨rfl, g⟩
  replace Ha := Lib.hid (Ha.out.grown g)
  replace Hb := Lib.hid (Hb.out.grown g)
  replace Hc := Lib.hid (Hc.out.grown g)
  replace Hcj := Lib.hid (Hcj.out.grown g)
  replace Hb2 := Lib.hid (Hb2.out.grown g)
  replace Hr4 := Lib.hid (Hr4.out.grown g)
  replace Hr6 := Lib.hid (Hr6.out.grown g)
  replace HB8 := Lib.hid (And.intro (World.grownBy.cell g HB8.out.1 (by simp)) (World.grownBy.cell g HB8.out.2 (by simp)))
  replace HB9 := Lib.hid (And.intro (World.grownBy.cell g HB9.out.1 (by simp)) (World.grownBy.cell g HB9.out.2 (by simp)))
  replace HB10 := Lib.hid (And.intro (World.grownBy.cell g HB10.out.1 (by simp)) (World.grownBy.cell g HB10.out.2 (by simp)))
  replace HB11 := Lib.hid (And.intro (World.grownBy.cell g HB11.out.1 (by simp)) (World.grownBy.cell g HB11.out.2 (by simp)))
  replace HB13 := Lib.hid (And.intro (World.grownBy.cell g HB13.out.1 (by simp)) (World.grownBy.cell g HB13.out.2 (by simp)))
  replace HB15 := Lib.hid (And.intro (World.grownBy.cell g HB15.out.1 (by simp)) (World.grownBy.cell g HB15.out.2 (by simp)))
  replace HRB := Lib.hid (And.intro (World.grownBy.cell g HRB.out.1 (by simp)) (And.intro (World.grownBy.cell g HRB.out.2.1 (by simp)) (And.intro (World.grownBy.cell g HRB.out.2.2.1 (by simp)) (And.intro (World.grownBy.cell g HRB.out.2.2.2.1 (by simp)) (World.grownBy.cell g HRB.out.2.2.2.2 (by simp))))))
  replace HR := Lib.hid (HR.out.grown g)
  replace HG := Lib.hid (World.grownBy.trans HG.out g)
  clear g
  have qB80 := HB8.out.1
  have qB81 := HB8.out.2
  have qB90 := HB9.out.1
  have qB91 := HB9.out.2
  have qB100 := HB10.out.1
  have qB101 := HB10.out.2
  have qB110 := HB11.out.1
  have qB111 := HB11.out.2
  have qB130 := HB13.out.1
  have qB131 := HB13.out.2
  have qB150 := HB15.out.1
  have qB151 := HB15.out.2
  have qr0 := HRB.out.1
  have qr1 := HRB.out.2.1
  have qr2 := HRB.out.2.2.1
  have qr3 := HRB.out.2.2.2.1
  have qr4 := HRB.out.2.2.2.2
  go_wp2_with fail
  clear qB80 qB81 qB90 qB91 qB100 qB101 qB110 qB111 qB130 qB131 qB150 qB151 qr0 qr1 qr2 qr3 qr4
  refine (diffV (k : Nat) (k : Nat) vL1.out vL2.out hn5 hk3 (by rw [← EL1.out, ← EL2.out]; exact EL8.out) ZL1.out ZL2.out ZL8.out _ _ _ _ _ Ha.out Hb.out).mono ?_
  rintro e V19 ⟨xr8, yr8, rfl, hr, g⟩
  replace Ha := Lib.hid (Ha.out.grown g)
  replace Hb := Lib.hid (Hb.out.grown g)
  replace Hc := Lib.hid (Hc.out.grown g)
  replace Hcj := Lib.hid (Hcj.out.grown g)
  replace Hb2 := Lib.hid (Hb2.out.grown g)
  replace Hr4 := Lib.hid (Hr4.out.grown g)
  replace Hr6 := Lib.hid (Hr6.out.grown g)
  replace HB8 := Lib.hid (And.intro (World.grownBy.cell g HB8.out.1 (by simp)) (World.grownBy.cell g HB8.out.2 (by simp)))
  replace HB9 := Lib.hid (And.intro (World.grownBy.cell g HB9.out.1 (by simp)) (World.grownBy.cell g HB9.out.2 (by simp)))
  replace HB10 := Lib.hid (And.intro (World.grownBy.cell g HB10.out.1 (by simp)) (World.grownBy.cell g HB10.out.2 (by simp)))
  replace HB11 := Lib.hid (And.intro (World.grownBy.cell g HB11.out.1 (by simp)) (World.grownBy.cell g HB11.out.2 (by simp)))
  replace HB13 := Lib.hid (And.intro (World.grownBy.cell g HB13.out.1 (by simp)) (World.grownBy.cell g HB13.out.2 (by simp)))
  replace HB15 := Lib.hid (And.intro (World.grownBy.cell g HB15.out.1 (by simp)) (World.grownBy.cell g HB15.out.2 (by simp)))
  replace HRB := Lib.hid (And.intro (World.grownBy.cell g HRB.out.1 (by simp)) (And.intro (World.grownBy.cell g HRB.out.2.1 (by simp)) (And.intro (World.grownBy.cell g HRB.out.2.2.1 (by simp)) (And.intro (World.grownBy.cell g HRB.out.2.2.2.1 (by simp)) (World.grownBy.cell g HRB.out.2.2.2.2 (by simp))))))
  replace HR := Lib.hid (HR.out.grown g)
  replace HG := Lib.hid (World.grownBy.trans HG.out g)
  clear g
  have Hr8 := Lib.hid hr
  clear hr
  have qB80 := HB8.out.1
  have qB81 := HB8.out.2
  have qB90 := HB9.out.1
  have qB91 := HB9.out.2
  have qB100 := HB10.out.1
  have qB101 := HB10.out.2
  have qB110 := HB11.out.1
  have qB111 := HB11.out.2
  have qB130 := HB13.out.1
  have qB131 := HB13.out.2
  have qB150 := HB15.out.1
  have qB151 := HB15.out.2
  have qr0 := HRB.out.1
  have qr1 := HRB.out.2.1
  have qr2 := HRB.out.2.2.1
  have qr3 := HRB.out.2.2.2.1
  have qr4 := HRB.out.2.2.2.2
  go_wp2_with fail
  clear qB80 qB81 qB90 qB91 qB100 qB101 qB110 qB111 qB130 qB131 qB150 qB151 qr0 qr1 qr2 qr3 qr4
  refine (validV (k := k) vL8.out hn5 hk1 hk3 ZL8.out _ _ _ Hr8.out).mono ?_
  rintro e V20 ⟨rfl, g⟩
  replace Ha := Lib.hid (Ha.out.grown g)
  replace Hb := Lib.hid (Hb.out.grown g)
  replace Hc := Lib.hid (Hc.out.grown g)
  replace Hcj := Lib.hid (Hcj.out.grown g)
  replace Hb2 := Lib.hid (Hb2.out.grown g)
  replace Hr4 := Lib.hid (Hr4.out.grown g)
  replace Hr6 := Lib.hid (Hr6.out.grown g)
  replace Hr8 := Lib.hid (Hr8.out.grown g)
  replace HB8 := Lib.hid (And.intro (World.grownBy.cell g HB8.out.1 (by simp)) (World.grownBy.cell g HB8.out.2 (by simp)))
  replace HB9 := Lib.hid (And.intro (World.grownBy.cell g HB9.out.1 (by simp)) (World.grownBy.cell g HB9.out.2 (by simp)))
  replace HB10 := Lib.hid (And.intro (World.grownBy.cell g HB10.out.1 (by simp)) (World.grownBy.cell g HB10.out.2 (by simp)))
  replace HB11 := Lib.hid (And.intro (World.grownBy.cell g HB11.out.1 (by simp)) (World.grownBy.cell g HB11.out.2 (by simp)))
  replace HB13 := Lib.hid (And.intro (World.grownBy.cell g HB13.out.1 (by simp)) (World.grownBy.cell g HB13.out.2 (by simp)))
  replace HB15 := Lib.hid (And.intro (World.grownBy.cell g HB15.out.1 (by simp)) (World.grownBy.cell g HB15.out.2 (by simp)))
  replace HRB := Lib.hid (And.intro (World.grownBy.cell g HRB.out.1 (by simp)) (And.intro (World.grownBy.cell g HRB.out.2.1 (by simp)) (And.intro (World.grownBy.cell g HRB.out.2.2.1 (by simp)) (And.intro (World.grownBy.cell g HRB.out.2.2.2.1 (by simp)) (World.grownBy.cell g HRB.out.2.2.2.2 (by simp))))))
  replace HR := Lib.hid (HR.out.grown g)
  replace HG := Lib.hid (World.grownBy.trans HG.out g)
  clear g
  have qB80 := HB8.out.1
  have qB81 := HB8.out.2
  have qB90 := HB9.out.1
  have qB91 := HB9.out.2
  have qB100 := HB10.out.1
  have qB101 := HB10.out.2
  have qB110 := HB11.out.1
  have qB111 := HB11.out.2
  have qB130 := HB13.out.1
  have qB131 := HB13.out.2
  have qB150 := HB15.out.1
  have qB151 := HB15.out.2
  have qr0 := HRB.out.1
  have qr1 := HRB.out.2.1
  have qr2 := HRB.out.2.2.1
  have qr3 := HRB.out.2.2.2.1
  have qr4 := HRB.out.2.2.2.2
  go_wp2_with fail
  clear qB80 qB81 qB90 qB91 qB100 qB101 qB110 qB111 qB130 qB131 qB150 qB151 qr0 qr1 qr2 qr3 qr4
  refine (overV (k := k) (j := k) vL1.out vL2.out hn1 hn5 hk3 hk1 hk3 (by rw [← EL1.out, ← EL2.out]; exact EL9.out) ZL1.out ZL2.out ZL9.out _ _ _ _ _ Ha.out Hb.out).mono ?_
  rintro e V21 ⟨xr10, yr10, rfl, hr, g⟩
  replace Ha := Lib.hid (Ha.out.grown g)
  replace Hb := Lib.hid (Hb.out.grown g)
  replace Hc := Lib.hid (Hc.out.grown g)
  replace Hcj := Lib.hid (Hcj.out.grown g)
  replace Hb2 := Lib.hid (Hb2.out.grown g)
  replace Hr4 := Lib.hid (Hr4.out.grown g)
  replace Hr6 := Lib.hid (Hr6.out.grown g)
  replace Hr8 := Lib.hid (Hr8.out.grown g)
  replace HB8 := Lib.hid (And.intro (World.grownBy.cell g HB8.out.1 (by simp)) (World.grownBy.cell g HB8.out.2 (by simp)))
  replace HB9 := Lib.hid (And.intro (World.grownBy.cell g HB9.out.1 (by simp)) (World.grownBy.cell g HB9.out.2 (by simp)))
  replace HB10 := Lib.hid (And.intro (World.grownBy.cell g HB10.out.1 (by simp)) (World.grownBy.cell g HB10.out.2 (by simp)))
  replace HB11 := Lib.hid (And.intro (World.grownBy.cell g HB11.out.1 (by simp)) (World.grownBy.cell g HB11.out.2 (by simp)))
  replace HB13 := Lib.hid (And.intro (World.grownBy.cell g HB13.out.1 (by simp)) (World.grownBy.cell g HB13.out.2 (by simp)))
  replace HB15 := Lib.hid (And.intro (World.grownBy.cell g HB15.out.1 (by simp)) (World.grownBy.cell g HB15.out.2 (by simp)))
  replace HRB := Lib.hid (And.intro (World.grownBy.cell g HRB.out.1 (by simp)) (And.intro (World.grownBy.cell g HRB.out.2.1 (by simp)) (And.intro (World.grownBy.cell g HRB.out.2.2.1 (by simp)) (And.intro (World.grownBy.cell g HRB.out.2.2.2.1 (by simp)) (World.grownBy.cell g HRB.out.2.2.2.2 (by simp))))))
  replace HR := Lib.hid (HR.out.grown g)
  replace HG := Lib.hid (World.grownBy.trans HG.out g)
  clear g
  have Hr10 := Lib.hid hr
  clear hr
  have qB80 := HB8.out.1
  have qB81 := HB8.out.2
  have qB90 := HB9.out.1
  have qB91 := HB9.out.2
  have qB100 := HB10.out.1
  have qB101 := HB10.out.2
  have qB110 := HB11.out.1
  have qB111 := HB11.out.2
  have qB130 := HB13.out.1
  have qB131 := HB13.out.2
  have qB150 := HB15.out.1
  have qB151 := HB15.out.2
  have qr0 := HRB.out.1
  have qr1 := HRB.out.2.1
  have qr2 := HRB.out.2.2.1
  have qr3 := HRB.out.2.2.2.1
  have qr4 := HRB.out.2.2.2.2
  go_wp2_with fail
  clear qB80 qB81 qB90 qB91 qB100 qB101 qB110 qB111 qB130 qB131 qB150 qB151 qr0 qr1 qr2 qr3 qr4
  refine (validV (k := k) vL9.out hn5 hk1 hk3 ZL9.out _ _ _ Hr10.out).mono ?_
  rintro e V22 ⟨rfl, g⟩
  replace Ha := Lib.hid (Ha.out.grown g)
  replace Hb := Lib.hid (Hb.out.grown g)
  replace Hc := Lib.hid (Hc.out.grown g)
  replace Hcj := Lib.hid (Hcj.out.grown g)
  replace Hb2 := Lib.hid (Hb2.out.grown g)
  replace Hr4 := Lib.hid (Hr4.out.grown g)
  replace Hr6 := Lib.hid (Hr6.out.grown g)
  replace Hr8 := Lib.hid (Hr8.out.grown g)
  replace Hr10 := Lib.hid (Hr10.out.grown g)
  replace HB8 := Lib.hid (And.intro (World.grownBy.cell g HB8.out.1 (by simp)) (World.grownBy.cell g HB8.out.2 (by simp)))
  replace HB9 := Lib.hid (And.intro (World.grownBy.cell g HB9.out.1 (by simp)) (World.grownBy.cell g HB9.out.2 (by simp)))
  replace HB10 := Lib.hid (And.intro (World.grownBy.cell g HB10.out.1 (by simp)) (World.grownBy.cell g HB10.out.2 (by simp)))
  replace HB11 := Lib.hid (And.intro (World.grownBy.cell g HB11.out.1 (by simp)) (World.grownBy.cell g HB11.out.2 (by simp)))
  replace HB13 := Lib.hid (And.intro (World.grownBy.cell g HB13.out.1 (by simp)) (World.grownBy.cell g HB13.out.2 (by simp)))
  replace HB15 := Lib.hid (And.intro (World.grownBy.cell g HB15.out.1 (by simp)) (World.grownBy.cell g HB15.out.2 (by simp)))
  replace HRB := Lib.hid (And.intro (World.grownBy.cell g HRB.out.1 (by simp)) (And.intro (World.grownBy.cell g HRB.out.2.1 (by simp)) (And.intro (World.grownBy.cell g HRB.out.2.2.1 (by simp)) (And.intro (World.grownBy.cell g HRB.out.2.2.2.1 (by simp)) (World.grownBy.cell g HRB.out.2.2.2.2 (by simp))))))
  replace HR := Lib.hid (HR.out.grown g)
  replace HG := Lib.hid (World.grownBy.trans HG.out g)
  clear g
  have qB80 := HB8.out.1
  have qB81 := HB8.out.2
  have qB90 := HB9.out.1
  have qB91 := HB9.out.2
  have qB100 := HB10.out.1
  have qB101 := HB10.out.2
  have qB110 := HB11.out.1
  have qB111 := HB11.out.2
  have qB130 := HB13.out.1
  have qB131 := HB13.out.2
  have qB150 := HB15.out.1
  have qB151 := HB15.out.2
  have qr0 := HRB.out.1
  have qr1 := HRB.out.2.1
  have qr2 := HRB.out.2.2.1
  have qr3 := HRB.out.2.2.2.1
  have qr4 := HRB.out.2.2.2.2
  go_wp2_with fail
  clear qB80 qB81 qB90 qB91 qB100 qB101 qB110 qB111 qB130 qB131 qB150 qB151 qr0 qr1 qr2 qr3 qr4
  refine (turnV vL5.out hn1 hn5 (by rw [← EL5.out]; exact EL10.out) ZL5.out ZL10.out _ _ _ Hb2.out).mono ?_
  rintro e V23 ⟨xr12, yr12, rfl, hr, g⟩
  replace Ha := Lib.hid (Ha.out.grown g)
  replace Hb := Lib.hid (Hb.out.grown g)
  replace Hc := Lib.hid (Hc.out.grown g)
  replace Hcj := Lib.hid (Hcj.out.grown g)
  replace Hb2 := Lib.hid (Hb2.out.grown g)
  replace Hr4 := Lib.hid (Hr4.out.grown g)
  replace Hr6 := Lib.hid (Hr6.out.grown g)
  replace Hr8 := Lib.hid (Hr8.out.grown g)
  replace Hr10 := Lib.hid (Hr10.out.grown g)
  replace HB8 := Lib.hid (And.intro (World.grownBy.cell g HB8.out.1 (by simp)) (World.grownBy.cell g HB8.out.2 (by simp)))
  replace HB9 := Lib.hid (And.intro (World.grownBy.cell g HB9.out.1 (by simp)) (World.grownBy.cell g HB9.out.2 (by simp)))
  replace HB10 := Lib.hid (And.intro (World.grownBy.cell g HB10.out.1 (by simp)) (World.grownBy.cell g HB10.out.2 (by simp)))
  replace HB11 := Lib.hid (And.intro (World.grownBy.cell g HB11.out.1 (by simp)) (World.grownBy.cell g HB11.out.2 (by simp)))
  replace HB13 := Lib.hid (And.intro (World.grownBy.cell g HB13.out.1 (by simp)) (World.grownBy.cell g HB13.out.2 (by simp)))
  replace HB15 := Lib.hid (And.intro (World.grownBy.cell g HB15.out.1 (by simp)) (World.grownBy.cell g HB15.out.2 (by simp)))
  replace HRB := Lib.hid (And.intro (World.grownBy.cell g HRB.out.1 (by simp)) (And.intro (World.grownBy.cell g HRB.out.2.1 (by simp)) (And.intro (World.grownBy.cell g HRB.out.2.2.1 (by simp)) (And.intro (World.grownBy.cell g HRB.out.2.2.2.1 (by simp)) (World.grownBy.cell g HRB.out.2.2.2.2 (by simp))))))
  replace HR := Lib.hid (HR.out.grown g)
  replace HG := Lib.hid (World.grownBy.trans HG.out g)
  clear g
  have Hr12 := Lib.hid hr
  clear hr
  have qB80 := HB8.out.1
  have qB81 := HB8.out.2
  have qB90 := HB9.out.1
  have qB91 := HB9.out.2
  have qB100 := HB10.out.1
  have qB101 := HB10.out.2
  have qB110 := HB11.out.1
  have qB111 := HB11.out.2
  have qB130 := HB13.out.1
  have qB131 := HB13.out.2
  have qB150 := HB15.out.1
  have qB151 := HB15.out.2
  have qr0 := HRB.out.1
  have qr1 := HRB.out.2.1
  have qr2 := HRB.out.2.2.1
  have qr3 := HRB.out.2.2.2.1
  have qr4 := HRB.out.2.2.2.2
  go_wp2_with fail
  clear qB80 qB81 qB90 qB91 qB100 qB101 qB110 qB111 qB130 qB131 qB150 qB151 qr0 qr1 qr2 qr3 qr4
  refine (validV (k := 2) vL10.out hn5 (by omega) (by omega) ZL10.out _ _ _ Hr12.out).mono ?_
  rintro e V24 ⟨rfl, g⟩
  replace Ha := Lib.hid (Ha.out.grown g)
  replace Hb := Lib.hid (Hb.out.grown g)
  replace Hc := Lib.hid (Hc.out.grown g)
  replace Hcj := Lib.hid (Hcj.out.grown g)
  replace Hb2 := Lib.hid (Hb2.out.grown g)
  replace Hr4 := Lib.hid (Hr4.out.grown g)
  replace Hr6 := Lib.hid (Hr6.out.grown g)
  replace Hr8 := Lib.hid (Hr8.out.grown g)
  replace Hr10 := Lib.hid (Hr10.out.grown g)
  replace Hr12 := Lib.hid (Hr12.out.grown g)
  replace HB8 := Lib.hid (And.intro (World.grownBy.cell g HB8.out.1 (by simp)) (World.grownBy.cell g HB8.out.2 (by simp)))
  replace HB9 := Lib.hid (And.intro (World.grownBy.cell g HB9.out.1 (by simp)) (World.grownBy.cell g HB9.out.2 (by simp)))
  replace HB10 := Lib.hid (And.intro (World.grownBy.cell g HB10.out.1 (by simp)) (World.grownBy.cell g HB10.out.2 (by simp)))
  replace HB11 := Lib.hid (And.intro (World.grownBy.cell g HB11.out.1 (by simp)) (World.grownBy.cell g HB11.out.2 (by simp)))
  replace HB13 := Lib.hid (And.intro (World.grownBy.cell g HB13.out.1 (by simp)) (World.grownBy.cell g HB13.out.2 (by simp)))
  replace HB15 := Lib.hid (And.intro (World.grownBy.cell g HB15.out.1 (by simp)) (World.grownBy.cell g HB15.out.2 (by simp)))
  replace HRB := Lib.hid (And.intro (World.grownBy.cell g HRB.out.1 (by simp)) (And.intro (World.grownBy.cell g HRB.out.2.1 (by simp)) (And.intro (World.grownBy.cell g HRB.out.2.2.1 (by simp)) (And.intro (World.grownBy.cell g HRB.out.2.2.2.1 (by simp)) (World.grownBy.cell g HRB.out.2.2.2.2 (by simp))))))
  replace HR := Lib.hid (HR.out.grown g)
  replace HG := Lib.hid (World.grownBy.trans HG.out g)
  clear g
  have qB80 := HB8.out.1
  have qB81 := HB8.out.2
  have qB90 := HB9.out.1
  have qB91 := HB9.out.2
  have qB100 := HB10.out.1
  have qB101 := HB10.out.2
  have qB110 := HB11.out.1
  have qB111 := HB11.out.2
  have qB130 := HB13.out.1
  have qB131 := HB13.out.2
  have qB150 := HB15.out.1
  have qB151 := HB15.out.2
  have qr0 := HRB.out.1
  have qr1 := HRB.out.2.1
  have qr2 := HRB.out.2.2.1
  have qr3 := HRB.out.2.2.2.1
  have qr4 := HRB.out.2.2.2.2
  go_wp2_with fail
  clear qB80 qB81 qB90 qB91 qB100 qB101 qB110 qB111 qB130 qB131 qB150 qB151 qr0 qr1 qr2 qr3 qr4
  refine (closV vL5.out hn5 (by rw [← EL5.out]; exact EL11.out) ZL5.out ZL11.out _ _ _ Hb2.out).mono ?_
  rintro e V25 ⟨xr14, yr14, rfl, hr, g⟩
  replace Ha := Lib.hid (Ha.out.grown g)
  replace Hb := Lib.hid (Hb.out.grown g)
  replace Hc := Lib.hid (Hc.out.grown g)
  replace Hcj := Lib.hid (Hcj.out.grown g)
  replace Hb2 := Lib.hid (Hb2.out.grown g)
  replace Hr4 := Lib.hid (Hr4.out.grown g)
  replace Hr6 := Lib.hid (Hr6.out.grown g)
  replace Hr8 := Lib.hid (Hr8.out.grown g)
  replace Hr10 := Lib.hid (Hr10.out.grown g)
  replace Hr12 := Lib.hid (Hr12.out.grown g)
  replace HB8 := Lib.hid (And.intro (World.grownBy.cell g HB8.out.1 (by simp)) (World.grownBy.cell g HB8.out.2 (by simp)))
  replace HB9 := Lib.hid (And.intro (World.grownBy.cell g HB9.out.1 (by simp)) (World.grownBy.cell g HB9.out.2 (by simp)))
  replace HB10 := Lib.hid (And.intro (World.grownBy.cell g HB10.out.1 (by simp)) (World.grownBy.cell g HB10.out.2 (by simp)))
  replace HB11 := Lib.hid (And.intro (World.grownBy.cell g HB11.out.1 (by simp)) (World.grownBy.cell g HB11.out.2 (by simp)))
  replace HB13 := Lib.hid (And.intro (World.grownBy.cell g HB13.out.1 (by simp)) (World.grownBy.cell g HB13.out.2 (by simp)))
  replace HB15 := Lib.hid (And.intro (World.grownBy.cell g HB15.out.1 (by simp)) (World.grownBy.cell g HB15.out.2 (by simp)))
  replace HRB := Lib.hid (And.intro (World.grownBy.cell g HRB.out.1 (by simp)) (And.intro (World.grownBy.cell g HRB.out.2.1 (by simp)) (And.intro (World.grownBy.cell g HRB.out.2.2.1 (by simp)) (And.intro (World.grownBy.cell g HRB.out.2.2.2.1 (by simp)) (World.grownBy.cell g HRB.out.2.2.2.2 (by simp))))))
  replace HR := Lib.hid (HR.out.grown g)
  replace HG := Lib.hid (World.grownBy.trans HG.out g)
  clear g
  have Hr14 := Lib.hid hr
  clear hr
  have qB80 := HB8.out.1
  have qB81 := HB8.out.2
  have qB90 := HB9.out.1
  have qB91 := HB9.out.2
  have qB100 := HB10.out.1
  have qB101 := HB10.out.2
  have qB110 := HB11.out.1
  have qB111 := HB11.out.2
  have qB130 := HB13.out.1
  have qB131 := HB13.out.2
  have qB150 := HB15.out.1
  have qB151 := HB15.out.2
  have qr0 := HRB.out.1
  have qr1 := HRB.out.2.1
  have qr2 := HRB.out.2.2.1
  have qr3 := HRB.out.2.2.2.1
  have qr4 := HRB.out.2.2.2.2
  go_wp2_with fail
  clear qB80 qB81 qB90 qB91 qB100 qB101 qB110 qB111 qB130 qB131 qB150 qB151 qr0 qr1 qr2 qr3 qr4
  refine (validV (k := 2) vL11.out hn5 (by omega) (by omega) ZL11.out _ _ _ Hr14.out).mono ?_
  rintro e V26 ⟨rfl, g⟩
  replace Ha := Lib.hid (Ha.out.grown g)
  replace Hb := Lib.hid (Hb.out.grown g)
  replace Hc := Lib.hid (Hc.out.grown g)
  replace Hcj := Lib.hid (Hcj.out.grown g)
  replace Hb2 := Lib.hid (Hb2.out.grown g)
  replace Hr4 := Lib.hid (Hr4.out.grown g)
  replace Hr6 := Lib.hid (Hr6.out.grown g)
  replace Hr8 := Lib.hid (Hr8.out.grown g)
  replace Hr10 := Lib.hid (Hr10.out.grown g)
  replace Hr12 := Lib.hid (Hr12.out.grown g)
  replace Hr14 := Lib.hid (Hr14.out.grown g)
  replace HB8 := Lib.hid (And.intro (World.grownBy.cell g HB8.out.1 (by simp)) (World.grownBy.cell g HB8.out.2 (by simp)))
  replace HB9 := Lib.hid (And.intro (World.grownBy.cell g HB9.out.1 (by simp)) (World.grownBy.cell g HB9.out.2 (by simp)))
  replace HB10 := Lib.hid (And.intro (World.grownBy.cell g HB10.out.1 (by simp)) (World.grownBy.cell g HB10.out.2 (by simp)))
  replace HB11 := Lib.hid (And.intro (World.grownBy.cell g HB11.out.1 (by simp)) (World.grownBy.cell g HB11.out.2 (by simp)))
  replace HB13 := Lib.hid (And.intro (World.grownBy.cell g HB13.out.1 (by simp)) (World.grownBy.cell g HB13.out.2 (by simp)))
  replace HB15 := Lib.hid (And.intro (World.grownBy.cell g HB15.out.1 (by simp)) (World.grownBy.cell g HB15.out.2 (by simp)))
  replace HRB := Lib.hid (And.intro (World.grownBy.cell g HRB.out.1 (by simp)) (And.intro (World.grownBy.cell g HRB.out.2.1 (by simp)) (And.intro (World.grownBy.cell g HRB.out.2.2.1 (by simp)) (And.intro (World.grownBy.cell g HRB.out.2.2.2.1 (by simp)) (World.grownBy.cell g HRB.out.2.2.2.2 (by simp))))))
  replace HR := Lib.hid (HR.out.grown g)
  replace HG := Lib.hid (World.grownBy.trans HG.out g)
  clear g
  have qB80 := HB8.out.1
  have qB81 := HB8.out.2
  have qB90 := HB9.out.1
  have qB91 := HB9.out.2
  have qB100 := HB10.out.1
  have qB101 := HB10.out.2
  have qB110 := HB11.out.1
  have qB111 := HB11.out.2
  have qB130 := HB13.out.1
  have qB131 := HB13.out.2
  have qB150 := HB15.out.1
  have qB151 := HB15.out.2
  have qr0 := HRB.out.1
  have qr1 := HRB.out.2.1
  have qr2 := HRB.out.2.2.1
  have qr3 := HRB.out.2.2.2.1
  have qr4 := HRB.out.2.2.2.2
  go_wp2_with fail
  clear qB80 qB81 qB90 qB91 qB100 qB101 qB110 qB111 qB130 qB131 qB150 qB151 qr0 qr1 qr2 qr3 qr4
  refine (idenV hn5 EL12.out ZL12.out _).mono ?_
  rintro e V27 ⟨xr16, yr16, rfl, hr, g⟩
  replace Ha := Lib.hid (Ha.out.grown g)
  replace Hb := Lib.hid (Hb.out.grown g)
  replace Hc := Lib.hid (Hc.out.grown g)
  replace Hcj := Lib.hid (Hcj.out.grown g)
  replace Hb2 := Lib.hid (Hb2.out.grown g)
  replace Hr4 := Lib.hid (Hr4.out.grown g)
  replace Hr6 := Lib.hid (Hr6.out.grown g)
  replace Hr8 := Lib.hid (Hr8.out.grown g)
  replace Hr10 := Lib.hid (Hr10.out.grown g)
  replace Hr12 := Lib.hid (Hr12.out.grown g)
  replace Hr14 := Lib.hid (Hr14.out.grown g)
  replace HB8 := Lib.hid (And.intro (World.grownBy.cell g HB8.out.1 (by simp)) (World.grownBy.cell g HB8.out.2 (by simp)))
  replace HB9 := Lib.hid (And.intro (World.grownBy.cell g HB9.out.1 (by simp)) (World.grownBy.cell g HB9.out.2 (by simp)))
  replace HB10 := Lib.hid (And.intro (World.grownBy.cell g HB10.out.1 (by simp)) (World.grownBy.cell g HB10.out.2 (by simp)))
  replace HB11 := Lib.hid (And.intro (World.grownBy.cell g HB11.out.1 (by simp)) (World.grownBy.cell g HB11.out.2 (by simp)))
  replace HB13 := Lib.hid (And.intro (World.grownBy.cell g HB13.out.1 (by simp)) (World.grownBy.cell g HB13.out.2 (by simp)))
  replace HB15 := Lib.hid (And.intro (World.grownBy.cell g HB15.out.1 (by simp)) (World.grownBy.cell g HB15.out.2 (by simp)))
  replace HRB := Lib.hid (And.intro (World.grownBy.cell g HRB.out.1 (by simp)) (And.intro (World.grownBy.cell g HRB.out.2.1 (by simp)) (And.intro (World.grownBy.cell g HRB.out.2.2.1 (by simp)) (And.intro (World.grownBy.cell g HRB.out.2.2.2.1 (by simp)) (World.grownBy.cell g HRB.out.2.2.2.2 (by simp))))))
  replace HR := Lib.hid (HR.out.grown g)
  replace HG := Lib.hid (World.grownBy.trans HG.out g)
  clear g
  have Hr16 := Lib.hid hr
  clear hr
  have qB80 := HB8.out.1
  have qB81 := HB8.out.2
  have qB90 := HB9.out.1
  have qB91 := HB9.out.2
  have qB100 := HB10.out.1
  have qB101 := HB10.out.2
  have qB110 := HB11.out.1
  have qB111 := HB11.out.2
  have qB130 := HB13.out.1
  have qB131 := HB13.out.2
  have qB150 := HB15.out.1
  have qB151 := HB15.out.2
  have qr0 := HRB.out.1
  have qr1 := HRB.out.2.1
  have qr2 := HRB.out.2.2.1
  have qr3 := HRB.out.2.2.2.1
  have qr4 := HRB.out.2.2.2.2
  go_wp2_with fail
  clear qB80 qB81 qB90 qB91 qB100 qB101 qB110 qB111 qB130 qB131 qB150 qB151 qr0 qr1 qr2 qr3 qr4
  refine (validV (k := 2) vL12.out hn5 (by omega) (by omega) ZL12.out _ _ _ Hr16.out).mono ?_
  rintro e V28 ⟨rfl, g⟩
  replace Ha := Lib.hid (Ha.out.grown g)
  replace Hb := Lib.hid (Hb.out.grown g)
  replace Hc := Lib.hid (Hc.out.grown g)
  replace Hcj := Lib.hid (Hcj.out.grown g)
  replace Hb2 := Lib.hid (Hb2.out.grown g)
  replace Hr4 := Lib.hid (Hr4.out.grown g)
  replace Hr6 := Lib.hid (Hr6.out.grown g)
  replace Hr8 := Lib.hid (Hr8.out.grown g)
  replace Hr10 := Lib.hid (Hr10.out.grown g)
  replace Hr12 := Lib.hid (Hr12.out.grown g)
  replace Hr14 := Lib.hid (Hr14.out.grown g)
  replace Hr16 := Lib.hid (Hr16.out.grown g)
  replace HB8 := Lib.hid (And.intro (World.grownBy.cell g HB8.out.1 (by simp)) (World.grownBy.cell g HB8.out.2 (by simp)))
  replace HB9 := Lib.hid (And.intro (World.grownBy.cell g HB9.out.1 (by simp)) (World.grownBy.cell g HB9.out.2 (by simp)))
  replace HB10 := Lib.hid (And.intro (World.grownBy.cell g HB10.out.1 (by simp)) (World.grownBy.cell g HB10.out.2 (by simp)))
  replace HB11 := Lib.hid (And.intro (World.grownBy.cell g HB11.out.1 (by simp)) (World.grownBy.cell g HB11.out.2 (by simp)))
  replace HB13 := Lib.hid (And.intro (World.grownBy.cell g HB13.out.1 (by simp)) (World.grownBy.cell g HB13.out.2 (by simp)))
  replace HB15 := Lib.hid (And.intro (World.grownBy.cell g HB15.out.1 (by simp)) (World.grownBy.cell g HB15.out.2 (by simp)))
  replace HRB := Lib.hid (And.intro (World.grownBy.cell g HRB.out.1 (by simp)) (And.intro (World.grownBy.cell g HRB.out.2.1 (by simp)) (And.intro (World.grownBy.cell g HRB.out.2.2.1 (by simp)) (And.intro (World.grownBy.cell g HRB.out.2.2.2.1 (by simp)) (World.grownBy.cell g HRB.out.2.2.2.2 (by simp))))))
  replace HR := Lib.hid (HR.out.grown g)
  replace HG := Lib.hid (World.grownBy.trans HG.out g)
  clear g
  have qB80 := HB8.out.1
  have qB81 := HB8.out.2
  have qB90 := HB9.out.1
  have qB91 := HB9.out.2
  have qB100 := HB10.out.1
  have qB101 := HB10.out.2
  have qB110 := HB11.out.1
  have qB111 := HB11.out.2
  have qB130 := HB13.out.1
  have qB131 := HB13.out.2
  have qB150 := HB15.out.1
  have qB151 := HB15.out.2
  have qr0 := HRB.out.1
  have qr1 := HRB.out.2.1
  have qr2 := HRB.out.2.2.1
  have qr3 := HRB.out.2.2.2.1
  have qr4 := HRB.out.2.2.2.2
  go_wp2_with fail
  clear qB80 qB81 qB90 qB91 qB100 qB101 qB110 qB111 qB130 qB131 qB150 qB151 qr0 qr1 qr2 qr3 qr4
  go_ret
  exact ⟨rfl, HG.out⟩

set_option maxRecDepth 100000 in
set_option maxHeartbeats 20000000 in
theorem validity_calls (N Ar : Nat) (A0 B0 C0 : List Nat) (aa ab ac : Option Addr) (ca cb cc : Nat) (z : Nat) (W0 : World) (h : RawAt W0 N Ar A0 B0 C0 aa ab ac ca cb cc) (hz : z < 256) :
    Calls Try.prog 4 #[.agg #[.int .u8 (N : Int), .int .u8 (Ar : Int), .slice aa A0.length ca, .slice ab B0.length cb, .slice ac C0.length cc], .int .u8 (z : Int)] W0 fun e w' => e = .returned (.bool true) ∧ W0.grownBy w' none := by
  have h1 : 1 + Ar % 3 + (1 + z % 3) = 2 ∨ 1 + Ar % 3 + (1 + z % 3) = 3 ∨ 1 + Ar % 3 + (1 + z % 3) = 4 ∨ 1 + Ar % 3 + (1 + z % 3) = 5 ∨ 1 + Ar % 3 + (1 + z % 3) = 6 := by omega
  rcases h1 with h1 | h1 | h1 | h1 | h1
  · exact validity_2 N Ar A0 B0 C0 aa ab ac ca cb cc z W0 h hz h1
  · exact validity_3 N Ar A0 B0 C0 aa ab ac ca cb cc z W0 h hz h1
  · exact validity_4 N Ar A0 B0 C0 aa ab ac ca cb cc z W0 h hz h1
  · exact validity_5 N Ar A0 B0 C0 aa ab ac ca cb cc z W0 h hz h1
  · exact validity_6 N Ar A0 B0 C0 aa ab ac ca cb cc z W0 h hz h1
end Go.Proofs.Ytkoigonbncpbaaa
