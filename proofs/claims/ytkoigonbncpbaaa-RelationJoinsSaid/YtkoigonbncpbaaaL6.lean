/- RelationJoins: the law walked. -/
import Derived.Test.YtkoigonbncpbaaaM6
import Derived.Test.YtkoigonbncpbaaaC1
namespace Go.Proofs.Ytkoigonbncpbaaa
open Go.RowKit Go.Shelf

set_option maxRecDepth 100000 in
set_option maxHeartbeats 20000000 in
theorem joins_calls (N Ar : Nat) (A0 B0 C0 : List Nat) (aa ab ac : Option Addr) (ca cb cc : Nat) (z : Nat) (W0 : World) (h : RawAt W0 N Ar A0 B0 C0 aa ab ac ca cb cc) (hz : z < 256) :
    Calls Try.prog 6 #[.agg #[.int .u8 (N : Int), .int .u8 (Ar : Int), .slice aa A0.length ca, .slice ab B0.length cb, .slice ac C0.length cc], .int .u8 (z : Int)] W0 fun e w' => e = .returned (.bool true) ∧ W0.grownBy w' none := by
  have hAr := h.hAr
  obtain ⟨n, hn⟩ : ∃ n, 1 + N % 5 = n := ⟨_, rfl⟩
  obtain ⟨k, hk⟩ : ∃ k, 1 + Ar % 3 = k := ⟨_, rfl⟩
  have hn1 : 1 ≤ n := by omega
  have hn5 : n ≤ 5 := by omega
  have hk1 : 1 ≤ k := by omega
  have hk3 : k ≤ 3 := by omega
  have hNN := Lib.hid hn; have hKK := Lib.hid hk
  clear hn hk hAr
  obtain ⟨r, hr⟩ : ∃ r, z % 3 = r := ⟨_, rfl⟩
  obtain ⟨j, hj⟩ : ∃ j, 1 + r = j := ⟨_, rfl⟩
  have hmod : (z : Int).tmod 3 = (r : Int) := by rw [Int.tmod_eq_emod_of_nonneg (by omega)]; omega
  have hwn : IntKind.i64.wrap (z : Int) = (z : Int) := IntWalk.i64_in _ (by omega)
  have hws : IntKind.i64.wrap (1 + (r : Int)) = (j : Int) := by rw [IntWalk.i64_in _ (by omega)]; omega
  have HJ3 := Lib.hid (And.intro hmod (And.intro hwn hws))
  have hj1 : 1 ≤ j := by omega
  have hj3 : j ≤ 3 := by omega
  clear hmod hwn hws hj hr
  obtain ⟨L1, hL1⟩ : ∃ l : List Int, fromL n k A0 = l := ⟨_, rfl⟩
  have vL1 := Lib.hid (by rw [← hL1]; exact (VR.from n k A0 hn1) : VR n (k) L1)
  obtain ⟨lL1, hlL1⟩ : ∃ l, L1.length = l := ⟨_, rfl⟩
  have EL1 := Lib.hid hL1
  have ZL1 := Lib.hid hlL1
  clear hL1 hlL1
  obtain ⟨L2, hL2⟩ : ∃ l : List Int, fromL n k B0 = l := ⟨_, rfl⟩
  have vL2 := Lib.hid (by rw [← hL2]; exact (VR.from n k B0 hn1) : VR n (k) L2)
  obtain ⟨lL2, hlL2⟩ : ∃ l, L2.length = l := ⟨_, rfl⟩
  have EL2 := Lib.hid hL2
  have ZL2 := Lib.hid hlL2
  clear hL2 hlL2
  obtain ⟨L3, hL3⟩ : ∃ l : List Int, fromL n k C0 = l := ⟨_, rfl⟩
  have vL3 := Lib.hid (by rw [← hL3]; exact (VR.from n k C0 hn1) : VR n (k) L3)
  obtain ⟨lL3, hlL3⟩ : ∃ l, L3.length = l := ⟨_, rfl⟩
  have EL3 := Lib.hid hL3
  have ZL3 := Lib.hid hlL3
  clear hL3 hlL3
  obtain ⟨L4, hL4⟩ : ∃ l : List Int, fromL n 2 B0 = l := ⟨_, rfl⟩
  have vL4 := Lib.hid (by rw [← hL4]; exact VR.from n 2 B0 hn1 : VR n (2) L4)
  obtain ⟨lL4, hlL4⟩ : ∃ l, L4.length = l := ⟨_, rfl⟩
  have EL4 := Lib.hid hL4
  have ZL4 := Lib.hid hlL4
  clear hL4 hlL4
  obtain ⟨L5, hL5⟩ : ∃ l : List Int, fromL n j C0 = l := ⟨_, rfl⟩
  have vL5 := Lib.hid (by rw [← hL5]; exact VR.from n j C0 hn1 : VR n (j) L5)
  obtain ⟨lL5, hlL5⟩ : ∃ l, L5.length = l := ⟨_, rfl⟩
  have EL5 := Lib.hid hL5
  have ZL5 := Lib.hid hlL5
  clear hL5 hlL5
  obtain ⟨L6, hL6⟩ : ∃ l : List Int, uniq (joinP n (n ^ (2 - 1)) (fromL n k A0) (fromL n 2 B0)) = l := ⟨_, rfl⟩
  have vL6 := Lib.hid (by rw [← hL6]; exact (by have h := VR.join (n := n) (k := k) (j := 2) (A := fromL n k A0) (B := fromL n 2 B0) (by rw [EL1.out]; exact vL1.out) (by rw [EL4.out]; exact vL4.out) hn1 hk1 (by omega); rw [show k + 2 - 2 = k by omega] at h; exact h) : VR n (k) L6)
  obtain ⟨lL6, hlL6⟩ : ∃ l, L6.length = l := ⟨_, rfl⟩
  have EL6 := Lib.hid hL6
  have ZL6 := Lib.hid hlL6
  clear hL6 hlL6
  obtain ⟨L7, hL7⟩ : ∃ l : List Int, uniq (joinP n (n ^ (j - 1)) (fromL n 2 B0) (fromL n j C0)) = l := ⟨_, rfl⟩
  have vL7 := Lib.hid (by rw [← hL7]; exact (by have h := VR.join (n := n) (k := 2) (j := j) (A := fromL n 2 B0) (B := fromL n j C0) (by rw [EL4.out]; exact vL4.out) (by rw [EL5.out]; exact vL5.out) hn1 (by omega) hj1; rw [show 2 + j - 2 = j by omega] at h; exact h) : VR n (j) L7)
  obtain ⟨lL7, hlL7⟩ : ∃ l, L7.length = l := ⟨_, rfl⟩
  have EL7 := Lib.hid hL7
  have ZL7 := Lib.hid hlL7
  clear hL7 hlL7
  obtain ⟨qq, LQ, lLQ, eQ, hq3, vq, zq, c1, c2⟩ := joins_same vL1.out vL4.out vL5.out hn1 hn5 hk1 hk3 hj1 hj3 (by rw [← EL1.out, ← EL4.out]; exact EL6.out) (by rw [← EL4.out, ← EL5.out]; exact EL7.out) ZL1.out ZL5.out ZL6.out ZL7.out
  have vLQ := Lib.hid vq; have ZLQ := Lib.hid zq; have CX1 := Lib.hid c1; have CX2 := Lib.hid c2
  clear vq zq c1 c2
  obtain ⟨L8, hL8⟩ : ∃ l : List Int, idenL n = l := ⟨_, rfl⟩
  have vL8 := Lib.hid (by rw [← hL8]; exact VR.iden n : VR n (2) L8)
  obtain ⟨lL8, hlL8⟩ : ∃ l, L8.length = l := ⟨_, rfl⟩
  have EL8 := Lib.hid hL8
  have ZL8 := Lib.hid hlL8
  clear hL8 hlL8
  obtain ⟨L9, hL9⟩ : ∃ l : List Int, uniq (joinP n (n ^ (2 - 1)) (fromL n k A0) (idenL n)) = l := ⟨_, rfl⟩
  have vL9 := Lib.hid (by rw [← hL9]; exact (by have h := VR.join (n := n) (k := k) (j := 2) (A := fromL n k A0) (B := idenL n) (by rw [EL1.out]; exact vL1.out) (by rw [EL8.out]; exact vL8.out) hn1 hk1 (by omega); rw [show k + 2 - 2 = k by omega] at h; exact h) : VR n (k) L9)
  obtain ⟨lL9, hlL9⟩ : ∃ l, L9.length = l := ⟨_, rfl⟩
  have EL9 := Lib.hid hL9
  have ZL9 := Lib.hid hlL9
  clear hL9 hlL9
  obtain ⟨L10, hL10⟩ : ∃ l : List Int, uniq (joinP n (n ^ (k - 1)) (idenL n) (fromL n k A0)) = l := ⟨_, rfl⟩
  have vL10 := Lib.hid (by rw [← hL10]; exact (by have h := VR.join (n := n) (k := 2) (j := k) (A := idenL n) (B := fromL n k A0) (by rw [EL8.out]; exact vL8.out) (by rw [EL1.out]; exact vL1.out) hn1 (by omega) hk1; rw [show 2 + k - 2 = k by omega] at h; exact h) : VR n (k) L10)
  obtain ⟨lL10, hlL10⟩ : ∃ l, L10.length = l := ⟨_, rfl⟩
  have EL10 := Lib.hid hL10
  have ZL10 := Lib.hid hlL10
  clear hL10 hlL10
  have Q9 := Lib.hid (show L9 = L1 from by rw [← EL9.out, ← EL1.out]; exact jn_idr (VR.from n k A0 hn1) hn1 hk1)
  have Q10 := Lib.hid (show L10 = L1 from by rw [← EL10.out, ← EL1.out]; exact jn_idl (VR.from n k A0 hn1) hn1 hk1)
  obtain ⟨L11, hL11⟩ : ∃ l : List Int, unionL (fromL n k A0) (fromL n k B0) = l := ⟨_, rfl⟩
  have vL11 := Lib.hid (by rw [← hL11]; exact VR.union (by rw [EL1.out]; exact vL1.out) (by rw [EL2.out]; exact vL2.out) : VR n (k) L11)
  obtain ⟨lL11, hlL11⟩ : ∃ l, L11.length = l := ⟨_, rfl⟩
  have EL11 := Lib.hid hL11
  have ZL11 := Lib.hid hlL11
  clear hL11 hlL11
  obtain ⟨L12, hL12⟩ : ∃ l : List Int, uniq (joinP n (n ^ (2 - 1)) (unionL (fromL n k A0) (fromL n k B0)) (fromL n 2 B0)) = l := ⟨_, rfl⟩
  have vL12 := Lib.hid (by rw [← hL12]; exact (by have h := VR.join (n := n) (k := k) (j := 2) (A := unionL (fromL n k A0) (fromL n k B0)) (B := fromL n 2 B0) (by rw [EL11.out]; exact vL11.out) (by rw [EL4.out]; exact vL4.out) hn1 hk1 (by omega); rw [show k + 2 - 2 = k by omega] at h; exact h) : VR n (k) L12)
  obtain ⟨lL12, hlL12⟩ : ∃ l, L12.length = l := ⟨_, rfl⟩
  have EL12 := Lib.hid hL12
  have ZL12 := Lib.hid hlL12
  clear hL12 hlL12
  obtain ⟨L13, hL13⟩ : ∃ l : List Int, uniq (joinP n (n ^ (2 - 1)) (fromL n k B0) (fromL n 2 B0)) = l := ⟨_, rfl⟩
  have vL13 := Lib.hid (by rw [← hL13]; exact (by have h := VR.join (n := n) (k := k) (j := 2) (A := fromL n k B0) (B := fromL n 2 B0) (by rw [EL2.out]; exact vL2.out) (by rw [EL4.out]; exact vL4.out) hn1 hk1 (by omega); rw [show k + 2 - 2 = k by omega] at h; exact h) : VR n (k) L13)
  obtain ⟨lL13, hlL13⟩ : ∃ l, L13.length = l := ⟨_, rfl⟩
  have EL13 := Lib.hid hL13
  have ZL13 := Lib.hid hlL13
  clear hL13 hlL13
  obtain ⟨L14, hL14⟩ : ∃ l : List Int, uniq (joinP n (n ^ (k - 1)) (fromL n 2 B0) (unionL (fromL n k A0) (fromL n k B0))) = l := ⟨_, rfl⟩
  have vL14 := Lib.hid (by rw [← hL14]; exact (by have h := VR.join (n := n) (k := 2) (j := k) (A := fromL n 2 B0) (B := unionL (fromL n k A0) (fromL n k B0)) (by rw [EL4.out]; exact vL4.out) (by rw [EL11.out]; exact vL11.out) hn1 (by omega) hk1; rw [show 2 + k - 2 = k by omega] at h; exact h) : VR n (k) L14)
  obtain ⟨lL14, hlL14⟩ : ∃ l, L14.length = l := ⟨_, rfl⟩
  have EL14 := Lib.hid hL14
  have ZL14 := Lib.hid hlL14
  clear hL14 hlL14
  obtain ⟨L15, hL15⟩ : ∃ l : List Int, uniq (joinP n (n ^ (k - 1)) (fromL n 2 B0) (fromL n k A0)) = l := ⟨_, rfl⟩
  have vL15 := Lib.hid (by rw [← hL15]; exact (by have h := VR.join (n := n) (k := 2) (j := k) (A := fromL n 2 B0) (B := fromL n k A0) (by rw [EL4.out]; exact vL4.out) (by rw [EL1.out]; exact vL1.out) hn1 (by omega) hk1; rw [show 2 + k - 2 = k by omega] at h; exact h) : VR n (k) L15)
  obtain ⟨lL15, hlL15⟩ : ∃ l, L15.length = l := ⟨_, rfl⟩
  have EL15 := Lib.hid hL15
  have ZL15 := Lib.hid hlL15
  clear hL15 hlL15
  obtain ⟨L16, hL16⟩ : ∃ l : List Int, uniq (joinP n (n ^ (k - 1)) (fromL n 2 B0) (fromL n k B0)) = l := ⟨_, rfl⟩
  have vL16 := Lib.hid (by rw [← hL16]; exact (by have h := VR.join (n := n) (k := 2) (j := k) (A := fromL n 2 B0) (B := fromL n k B0) (by rw [EL4.out]; exact vL4.out) (by rw [EL2.out]; exact vL2.out) hn1 (by omega) hk1; rw [show 2 + k - 2 = k by omega] at h; exact h) : VR n (k) L16)
  obtain ⟨lL16, hlL16⟩ : ∃ l, L16.length = l := ⟨_, rfl⟩
  have EL16 := Lib.hid hL16
  have ZL16 := Lib.hid hlL16
  clear hL16 hlL16
  obtain ⟨L17, hL17⟩ : ∃ l : List Int, fromL n 1 C0 = l := ⟨_, rfl⟩
  have vL17 := Lib.hid (by rw [← hL17]; exact VR.from n 1 C0 hn1 : VR n (1) L17)
  obtain ⟨lL17, hlL17⟩ : ∃ l, L17.length = l := ⟨_, rfl⟩
  have EL17 := Lib.hid hL17
  have ZL17 := Lib.hid hlL17
  clear hL17 hlL17
  obtain ⟨qp, LP, lLP, eP, hp3, vp, zp, ok, od, c3⟩ := prod_any vL1.out vL17.out hn5 hk3 ZL1.out ZL17.out
  have vLP := Lib.hid vp; have ZLP := Lib.hid zp; have POK := Lib.hid ok; have POD := Lib.hid od; have CX3 := Lib.hid c3
  clear vp zp ok od c3
  obtain ⟨L19, hL19⟩ : ∃ l : List Int, unionL (uniq (joinP n (n ^ (2 - 1)) (fromL n k A0) (fromL n 2 B0))) (uniq (joinP n (n ^ (2 - 1)) (fromL n k B0) (fromL n 2 B0))) = l := ⟨_, rfl⟩
  have vL19 := Lib.hid (by rw [← hL19]; exact VR.union (by rw [EL6.out]; exact vL6.out) (by rw [EL13.out]; exact vL13.out) : VR n (k) L19)
  obtain ⟨lL19, hlL19⟩ : ∃ l, L19.length = l := ⟨_, rfl⟩
  have EL19 := Lib.hid hL19
  have ZL19 := Lib.hid hlL19
  clear hL19 hlL19
  have Q23 := Lib.hid (show L12 = L19 from by rw [← EL12.out, ← EL19.out]; exact jn_dl (VR.from n k A0 hn1) (VR.from n k B0 hn1) (VR.from n 2 B0 hn1) hn1 hk1)
  obtain ⟨L20, hL20⟩ : ∃ l : List Int, unionL (uniq (joinP n (n ^ (k - 1)) (fromL n 2 B0) (fromL n k A0))) (uniq (joinP n (n ^ (k - 1)) (fromL n 2 B0) (fromL n k B0))) = l := ⟨_, rfl⟩
  have vL20 := Lib.hid (by rw [← hL20]; exact VR.union (by rw [EL15.out]; exact vL15.out) (by rw [EL16.out]; exact vL16.out) : VR n (k) L20)
  obtain ⟨lL20, hlL20⟩ : ∃ l, L20.length = l := ⟨_, rfl⟩
  have EL20 := Lib.hid hL20
  have ZL20 := Lib.hid hlL20
  clear hL20 hlL20
  have Q25 := Lib.hid (show L14 = L20 from by rw [← EL14.out, ← EL20.out]; exact jn_dr (VR.from n k A0 hn1) (VR.from n k B0 hn1) (VR.from n 2 B0 hn1) hn1 hk1)
  obtain ⟨lA0, hlA0⟩ : ∃ l, A0.length = l := ⟨_, rfl⟩
  obtain ⟨lB0, hlB0⟩ : ∃ l, B0.length = l := ⟨_, rfl⟩
  obtain ⟨lC0, hlC0⟩ : ∃ l, C0.length = l := ⟨_, rfl⟩
  have ZA0 := Lib.hid hlA0; have ZB0 := Lib.hid hlB0; have ZC0 := Lib.hid hlC0
  rw [hlA0, hlB0, hlC0]
  clear hlA0 hlB0 hlC0
  have hg := World.grownBy_alloc W0 (.cells #[.int .u8 (N : Int), .int .u8 (Ar : Int), .slice aa lA0 ca, .slice ab lB0 cb, .slice ac lC0 cc] 24) none
  have hb0 : (W0.alloc (.cells #[.int .u8 (N : Int), .int .u8 (Ar : Int), .slice aa lA0 ca, .slice ab lB0 cb, .slice ac lC0 cc] 24)).cell? ⟨W0.heap.size, 0, none⟩ = some (.int .u8 (N : Int)) := by go_simp
  have hb1 : (W0.alloc (.cells #[.int .u8 (N : Int), .int .u8 (Ar : Int), .slice aa lA0 ca, .slice ab lB0 cb, .slice ac lC0 cc] 24)).cell? ⟨W0.heap.size, 1, none⟩ = some (.int .u8 (Ar : Int)) := by go_simp
  have hb2 : (W0.alloc (.cells #[.int .u8 (N : Int), .int .u8 (Ar : Int), .slice aa lA0 ca, .slice ab lB0 cb, .slice ac lC0 cc] 24)).cell? ⟨W0.heap.size, 2, none⟩ = some (.slice aa lA0 ca) := by go_simp
  have hb3 : (W0.alloc (.cells #[.int .u8 (N : Int), .int .u8 (Ar : Int), .slice aa lA0 ca, .slice ab lB0 cb, .slice ac lC0 cc] 24)).cell? ⟨W0.heap.size, 3, none⟩ = some (.slice ab lB0 cb) := by go_simp
  have hb4 : (W0.alloc (.cells #[.int .u8 (N : Int), .int .u8 (Ar : Int), .slice aa lA0 ca, .slice ab lB0 cb, .slice ac lC0 cc] 24)).cell? ⟨W0.heap.size, 4, none⟩ = some (.slice ac lC0 cc) := by go_simp
  obtain ⟨V0, hV0⟩ : ∃ V, W0.alloc (.cells #[.int .u8 (N : Int), .int .u8 (Ar : Int), .slice aa lA0 ca, .slice ab lB0 cb, .slice ac lC0 cc] 24) = V := ⟨_, rfl⟩
  rw [hV0] at hg hb0 hb1 hb2 hb3 hb4
  have HG := Lib.hid hg
  have HRB := Lib.hid (And.intro hb0 (And.intro hb1 (And.intro hb2 (And.intro hb3 hb4))))
  have HR := Lib.hid (h.grown hg)
  clear hg hb0 hb1 hb2 hb3 hb4 h
  go_enter Try.func6, Try.ntmps6
  have qr0 := HRB.out.1
  have qr1 := HRB.out.2.1
  have qr2 := HRB.out.2.2.1
  have qr3 := HRB.out.2.2.2.1
  have qr4 := HRB.out.2.2.2.2
  go_upto_region 1 with fail
  clear qr0 qr1 qr2 qr3 qr4
  clear hV0
  have qr0 := HRB.out.1
  have qr1 := HRB.out.2.1
  have qr2 := HRB.out.2.2.1
  have qr3 := HRB.out.2.2.2.1
  have qr4 := HRB.out.2.2.2.2
  go_wp2_with fail
  clear qr0 qr1 qr2 qr3 qr4
  refine (head_calls _).mono ?_
  rintro e V1 ⟨rfl, g⟩
  replace HRB := Lib.hid (And.intro (World.grownBy.cell g HRB.out.1 (by simp)) (And.intro (World.grownBy.cell g HRB.out.2.1 (by simp)) (And.intro (World.grownBy.cell g HRB.out.2.2.1 (by simp)) (And.intro (World.grownBy.cell g HRB.out.2.2.2.1 (by simp)) (World.grownBy.cell g HRB.out.2.2.2.2 (by simp))))))
  replace HR := Lib.hid (HR.out.grown g)
  replace HG := Lib.hid (World.grownBy.trans HG.out g)
  clear g
  have qr0 := HRB.out.1
  have qr1 := HRB.out.2.1
  have qr2 := HRB.out.2.2.1
  have qr3 := HRB.out.2.2.2.1
  have qr4 := HRB.out.2.2.2.2
  go_wp2_with fail
  clear qr0 qr1 qr2 qr3 qr4
  refine (threeV hNN.out hKK.out EL1.out EL2.out EL3.out ZA0.out ZB0.out ZC0.out ZL1.out ZL2.out ZL3.out _ HR.out).mono ?_
  rintro e V2 ⟨xa, xb, xc, ya, yb, yc, rfl, ia, ib, ic, g⟩
  replace HRB := Lib.hid (And.intro (World.grownBy.cell g HRB.out.1 (by simp)) (And.intro (World.grownBy.cell g HRB.out.2.1 (by simp)) (And.intro (World.grownBy.cell g HRB.out.2.2.1 (by simp)) (And.intro (World.grownBy.cell g HRB.out.2.2.2.1 (by simp)) (World.grownBy.cell g HRB.out.2.2.2.2 (by simp))))))
  replace HR := Lib.hid (HR.out.grown g)
  replace HG := Lib.hid (World.grownBy.trans HG.out g)
  clear g
  have Ha := Lib.hid ia; have Hb := Lib.hid ib; have Hc := Lib.hid ic
  clear ia ib ic
  have qr0 := HRB.out.1
  have qr1 := HRB.out.2.1
  have qr2 := HRB.out.2.2.1
  have qr3 := HRB.out.2.2.2.1
  have qr4 := HRB.out.2.2.2.2
  go_upto_region 3 with fail
  clear qr0 qr1 qr2 qr3 qr4
  have hs6 := (Six.new V2 (.int .i64 ((k : Nat) : Int)) (.slice xa lL1 ya) (.int .i64 ((k : Nat) : Int)) (.slice xb lL2 yb) (.int .i64 ((k : Nat) : Int)) (.slice xc lL3 yc) 29).1
  have g := World.grownBy_alloc V2 (.cells #[.int .i64 ((k : Nat) : Int), .slice xa lL1 ya, .int .i64 ((k : Nat) : Int), .slice xb lL2 yb, .int .i64 ((k : Nat) : Int), .slice xc lL3 yc] 29) none
  obtain ⟨V3, hV3⟩ : ∃ z, World.alloc V2 (.cells #[.int .i64 ((k : Nat) : Int), .slice xa lL1 ya, .int .i64 ((k : Nat) : Int), .slice xb lL2 yb, .int .i64 ((k : Nat) : Int), .slice xc lL3 yc] 29) = z := ⟨_, rfl⟩
  rw [hV3] at g hs6 ⊢
  clear hV3
  obtain ⟨bT, hb⟩ : ∃ b, V2.heap.size = b := ⟨_, rfl⟩
  rw [hb] at hs6 ⊢
  clear hb
  replace Ha := Lib.hid (Ha.out.grown g)
  replace Hb := Lib.hid (Hb.out.grown g)
  replace Hc := Lib.hid (Hc.out.grown g)
  replace HRB := Lib.hid (And.intro (World.grownBy.cell g HRB.out.1 (by simp)) (And.intro (World.grownBy.cell g HRB.out.2.1 (by simp)) (And.intro (World.grownBy.cell g HRB.out.2.2.1 (by simp)) (And.intro (World.grownBy.cell g HRB.out.2.2.2.1 (by simp)) (World.grownBy.cell g HRB.out.2.2.2.2 (by simp))))))
  replace HR := Lib.hid (HR.out.grown g)
  replace HG := Lib.hid (World.grownBy.trans HG.out g)
  clear g
  have HT := Lib.hid hs6
  clear hs6
  have qr0 := HRB.out.1
  have qr1 := HRB.out.2.1
  have qr2 := HRB.out.2.2.1
  have qr3 := HRB.out.2.2.2.1
  have qr4 := HRB.out.2.2.2.2
  have t0 := HT.out.1
  have t1 := HT.out.2.1
  have t2 := HT.out.2.2.1
  have t3 := HT.out.2.2.2.1
  have t4 := HT.out.2.2.2.2.1
  have t5 := HT.out.2.2.2.2.2
  go_upto_region 4 with fail
  clear qr0 qr1 qr2 qr3 qr4 t0 t1 t2 t3 t4 t5
  have hbx := one_cells V3 (.int .i64 (k : Nat)) (.slice xa lL1 ya) 27
  have g := World.grownBy_alloc V3 (.cells #[.int .i64 (k : Nat), .slice xa lL1 ya] 27) none
  obtain ⟨V4, hV4⟩ : ∃ z, World.alloc V3 (.cells #[.int .i64 (k : Nat), .slice xa lL1 ya] 27) = z := ⟨_, rfl⟩
  rw [hV4] at g hbx ⊢
  clear hV4
  obtain ⟨bB8, hb⟩ : ∃ b, V3.heap.size = b := ⟨_, rfl⟩
  rw [hb] at hbx ⊢
  clear hb
  replace Ha := Lib.hid (Ha.out.grown g)
  replace Hb := Lib.hid (Hb.out.grown g)
  replace Hc := Lib.hid (Hc.out.grown g)
  replace HRB := Lib.hid (And.intro (World.grownBy.cell g HRB.out.1 (by simp)) (And.intro (World.grownBy.cell g HRB.out.2.1 (by simp)) (And.intro (World.grownBy.cell g HRB.out.2.2.1 (by simp)) (And.intro (World.grownBy.cell g HRB.out.2.2.2.1 (by simp)) (World.grownBy.cell g HRB.out.2.2.2.2 (by simp))))))
  replace HR := Lib.hid (HR.out.grown g)
  replace HT := Lib.hid (And.intro (World.grownBy.cell g HT.out.1 (by simp)) (And.intro (World.grownBy.cell g HT.out.2.1 (by simp)) (And.intro (World.grownBy.cell g HT.out.2.2.1 (by simp)) (And.intro (World.grownBy.cell g HT.out.2.2.2.1 (by simp)) (And.intro (World.grownBy.cell g HT.out.2.2.2.2.1 (by simp)) (World.grownBy.cell g HT.out.2.2.2.2.2 (by simp)))))))
  replace HG := Lib.hid (World.grownBy.trans HG.out g)
  clear g
  have HB8 := Lib.hid (And.intro hbx.2.1 hbx.2.2.1)
  clear hbx
  have qB80 := HB8.out.1
  have qB81 := HB8.out.2
  have qr0 := HRB.out.1
  have qr1 := HRB.out.2.1
  have qr2 := HRB.out.2.2.1
  have qr3 := HRB.out.2.2.2.1
  have qr4 := HRB.out.2.2.2.2
  have t0 := HT.out.1
  have t1 := HT.out.2.1
  have t2 := HT.out.2.2.1
  have t3 := HT.out.2.2.2.1
  have t4 := HT.out.2.2.2.2.1
  have t5 := HT.out.2.2.2.2.2
  go_wp2_with fail
  clear qB80 qB81 qr0 qr1 qr2 qr3 qr4 t0 t1 t2 t3 t4 t5
  refine (fromV (n := n) (k := 2) hn1 hn5 (by omega) HR.out.lB EL4.out ZB0.out ZL4.out _ _ _ HR.out.hB).mono ?_
  rintro e V5 ⟨xb2, yb2, rfl, hr, g⟩
  replace Ha := Lib.hid (Ha.out.grown g)
  replace Hb := Lib.hid (Hb.out.grown g)
  replace Hc := Lib.hid (Hc.out.grown g)
  replace HB8 := Lib.hid (And.intro (World.grownBy.cell g HB8.out.1 (by simp)) (World.grownBy.cell g HB8.out.2 (by simp)))
  replace HRB := Lib.hid (And.intro (World.grownBy.cell g HRB.out.1 (by simp)) (And.intro (World.grownBy.cell g HRB.out.2.1 (by simp)) (And.intro (World.grownBy.cell g HRB.out.2.2.1 (by simp)) (And.intro (World.grownBy.cell g HRB.out.2.2.2.1 (by simp)) (World.grownBy.cell g HRB.out.2.2.2.2 (by simp))))))
  replace HR := Lib.hid (HR.out.grown g)
  replace HT := Lib.hid (And.intro (World.grownBy.cell g HT.out.1 (by simp)) (And.intro (World.grownBy.cell g HT.out.2.1 (by simp)) (And.intro (World.grownBy.cell g HT.out.2.2.1 (by simp)) (And.intro (World.grownBy.cell g HT.out.2.2.2.1 (by simp)) (And.intro (World.grownBy.cell g HT.out.2.2.2.2.1 (by simp)) (World.grownBy.cell g HT.out.2.2.2.2.2 (by simp)))))))
  replace HG := Lib.hid (World.grownBy.trans HG.out g)
  clear g
  have Hb2 := Lib.hid hr
  clear hr
  have qB80 := HB8.out.1
  have qB81 := HB8.out.2
  have qr0 := HRB.out.1
  have qr1 := HRB.out.2.1
  have qr2 := HRB.out.2.2.1
  have qr3 := HRB.out.2.2.2.1
  have qr4 := HRB.out.2.2.2.2
  have t0 := HT.out.1
  have t1 := HT.out.2.1
  have t2 := HT.out.2.2.1
  have t3 := HT.out.2.2.2.1
  have t4 := HT.out.2.2.2.2.1
  have t5 := HT.out.2.2.2.2.2
  go_upto_region 5 with fail
  clear qB80 qB81 qr0 qr1 qr2 qr3 qr4 t0 t1 t2 t3 t4 t5
  have hbx := one_cells V5 (.int .i64 2) (.slice xb2 lL4 yb2) 27
  have g := World.grownBy_alloc V5 (.cells #[.int .i64 2, .slice xb2 lL4 yb2] 27) none
  obtain ⟨V6, hV6⟩ : ∃ z, World.alloc V5 (.cells #[.int .i64 2, .slice xb2 lL4 yb2] 27) = z := ⟨_, rfl⟩
  rw [hV6] at g hbx ⊢
  clear hV6
  obtain ⟨bB9, hb⟩ : ∃ b, V5.heap.size = b := ⟨_, rfl⟩
  rw [hb] at hbx ⊢
  clear hb
  replace Ha := Lib.hid (Ha.out.grown g)
  replace Hb := Lib.hid (Hb.out.grown g)
  replace Hc := Lib.hid (Hc.out.grown g)
  replace Hb2 := Lib.hid (Hb2.out.grown g)
  replace HB8 := Lib.hid (And.intro (World.grownBy.cell g HB8.out.1 (by simp)) (World.grownBy.cell g HB8.out.2 (by simp)))
  replace HRB := Lib.hid (And.intro (World.grownBy.cell g HRB.out.1 (by simp)) (And.intro (World.grownBy.cell g HRB.out.2.1 (by simp)) (And.intro (World.grownBy.cell g HRB.out.2.2.1 (by simp)) (And.intro (World.grownBy.cell g HRB.out.2.2.2.1 (by simp)) (World.grownBy.cell g HRB.out.2.2.2.2 (by simp))))))
  replace HR := Lib.hid (HR.out.grown g)
  replace HT := Lib.hid (And.intro (World.grownBy.cell g HT.out.1 (by simp)) (And.intro (World.grownBy.cell g HT.out.2.1 (by simp)) (And.intro (World.grownBy.cell g HT.out.2.2.1 (by simp)) (And.intro (World.grownBy.cell g HT.out.2.2.2.1 (by simp)) (And.intro (World.grownBy.cell g HT.out.2.2.2.2.1 (by simp)) (World.grownBy.cell g HT.out.2.2.2.2.2 (by simp)))))))
  replace HG := Lib.hid (World.grownBy.trans HG.out g)
  clear g
  have HB9 := Lib.hid (And.intro hbx.2.1 hbx.2.2.1)
  clear hbx
  have hmod := HJ3.out.1
  have hwn := HJ3.out.2.1
  have hws := HJ3.out.2.2
  have qB80 := HB8.out.1
  have qB81 := HB8.out.2
  have qB90 := HB9.out.1
  have qB91 := HB9.out.2
  have qr0 := HRB.out.1
  have qr1 := HRB.out.2.1
  have qr2 := HRB.out.2.2.1
  have qr3 := HRB.out.2.2.2.1
  have qr4 := HRB.out.2.2.2.2
  have t0 := HT.out.1
  have t1 := HT.out.2.1
  have t2 := HT.out.2.2.1
  have t3 := HT.out.2.2.2.1
  have t4 := HT.out.2.2.2.2.1
  have t5 := HT.out.2.2.2.2.2
  go_wp2_with fail
  clear qB80 qB81 qB90 qB91 qr0 qr1 qr2 qr3 qr4 t0 t1 t2 t3 t4 t5
  refine (fromV (n := n) (k := j) hn1 hn5 hj3 HR.out.lC EL5.out ZC0.out ZL5.out _ _ _ HR.out.hC).mono ?_
  rintro e V7 ⟨xcj, ycj, rfl, hr, g⟩
  replace Ha := Lib.hid (Ha.out.grown g)
  replace Hb := Lib.hid (Hb.out.grown g)
  replace Hc := Lib.hid (Hc.out.grown g)
  replace Hb2 := Lib.hid (Hb2.out.grown g)
  replace HB8 := Lib.hid (And.intro (World.grownBy.cell g HB8.out.1 (by simp)) (World.grownBy.cell g HB8.out.2 (by simp)))
  replace HB9 := Lib.hid (And.intro (World.grownBy.cell g HB9.out.1 (by simp)) (World.grownBy.cell g HB9.out.2 (by simp)))
  replace HRB := Lib.hid (And.intro (World.grownBy.cell g HRB.out.1 (by simp)) (And.intro (World.grownBy.cell g HRB.out.2.1 (by simp)) (And.intro (World.grownBy.cell g HRB.out.2.2.1 (by simp)) (And.intro (World.grownBy.cell g HRB.out.2.2.2.1 (by simp)) (World.grownBy.cell g HRB.out.2.2.2.2 (by simp))))))
  replace HR := Lib.hid (HR.out.grown g)
  replace HT := Lib.hid (And.intro (World.grownBy.cell g HT.out.1 (by simp)) (And.intro (World.grownBy.cell g HT.out.2.1 (by simp)) (And.intro (World.grownBy.cell g HT.out.2.2.1 (by simp)) (And.intro (World.grownBy.cell g HT.out.2.2.2.1 (by simp)) (And.intro (World.grownBy.cell g HT.out.2.2.2.2.1 (by simp)) (World.grownBy.cell g HT.out.2.2.2.2.2 (by simp)))))))
  replace HG := Lib.hid (World.grownBy.trans HG.out g)
  clear g
  have Hcj := Lib.hid hr
  clear hr
  have qB80 := HB8.out.1
  have qB81 := HB8.out.2
  have qB90 := HB9.out.1
  have qB91 := HB9.out.2
  have qr0 := HRB.out.1
  have qr1 := HRB.out.2.1
  have qr2 := HRB.out.2.2.1
  have qr3 := HRB.out.2.2.2.1
  have qr4 := HRB.out.2.2.2.2
  have t0 := HT.out.1
  have t1 := HT.out.2.1
  have t2 := HT.out.2.2.1
  have t3 := HT.out.2.2.2.1
  have t4 := HT.out.2.2.2.2.1
  have t5 := HT.out.2.2.2.2.2
  go_upto_region 6 with fail
  clear qB80 qB81 qB90 qB91 qr0 qr1 qr2 qr3 qr4 t0 t1 t2 t3 t4 t5
  have hbx := one_cells V7 (.int .i64 (j : Nat)) (.slice xcj lL5 ycj) 27
  have g := World.grownBy_alloc V7 (.cells #[.int .i64 (j : Nat), .slice xcj lL5 ycj] 27) none
  obtain ⟨V8, hV8⟩ : ∃ z, World.alloc V7 (.cells #[.int .i64 (j : Nat), .slice xcj lL5 ycj] 27) = z := ⟨_, rfl⟩
  rw [hV8] at g hbx ⊢
  clear hV8
  obtain ⟨bB10, hb⟩ : ∃ b, V7.heap.size = b := ⟨_, rfl⟩
  rw [hb] at hbx ⊢
  clear hb
  replace Ha := Lib.hid (Ha.out.grown g)
  replace Hb := Lib.hid (Hb.out.grown g)
  replace Hc := Lib.hid (Hc.out.grown g)
  replace Hb2 := Lib.hid (Hb2.out.grown g)
  replace Hcj := Lib.hid (Hcj.out.grown g)
  replace HB8 := Lib.hid (And.intro (World.grownBy.cell g HB8.out.1 (by simp)) (World.grownBy.cell g HB8.out.2 (by simp)))
  replace HB9 := Lib.hid (And.intro (World.grownBy.cell g HB9.out.1 (by simp)) (World.grownBy.cell g HB9.out.2 (by simp)))
  replace HRB := Lib.hid (And.intro (World.grownBy.cell g HRB.out.1 (by simp)) (And.intro (World.grownBy.cell g HRB.out.2.1 (by simp)) (And.intro (World.grownBy.cell g HRB.out.2.2.1 (by simp)) (And.intro (World.grownBy.cell g HRB.out.2.2.2.1 (by simp)) (World.grownBy.cell g HRB.out.2.2.2.2 (by simp))))))
  replace HR := Lib.hid (HR.out.grown g)
  replace HT := Lib.hid (And.intro (World.grownBy.cell g HT.out.1 (by simp)) (And.intro (World.grownBy.cell g HT.out.2.1 (by simp)) (And.intro (World.grownBy.cell g HT.out.2.2.1 (by simp)) (And.intro (World.grownBy.cell g HT.out.2.2.2.1 (by simp)) (And.intro (World.grownBy.cell g HT.out.2.2.2.2.1 (by simp)) (World.grownBy.cell g HT.out.2.2.2.2.2 (by simp)))))))
  replace HG := Lib.hid (World.grownBy.trans HG.out g)
  clear g
  have HB10 := Lib.hid (And.intro hbx.2.1 hbx.2.2.1)
  clear hbx
  clear hmod hwn hws
  have qB80 := HB8.out.1
  have qB81 := HB8.out.2
  have qB90 := HB9.out.1
  have qB91 := HB9.out.2
  have qB100 := HB10.out.1
  have qB101 := HB10.out.2
  have qr0 := HRB.out.1
  have qr1 := HRB.out.2.1
  have qr2 := HRB.out.2.2.1
  have qr3 := HRB.out.2.2.2.1
  have qr4 := HRB.out.2.2.2.2
  have t0 := HT.out.1
  have t1 := HT.out.2.1
  have t2 := HT.out.2.2.1
  have t3 := HT.out.2.2.2.1
  have t4 := HT.out.2.2.2.2.1
  have t5 := HT.out.2.2.2.2.2
  go_wp2_with fail
  clear qB80 qB81 qB90 qB91 qB100 qB101 qr0 qr1 qr2 qr3 qr4 t0 t1 t2 t3 t4 t5
  refine (joinV (k := k) (j := 2) k (by omega) vL1.out vL4.out hn1 hn5 hk1 hk3 (by omega) (by omega) (by omega) (by omega) (by rw [← EL1.out, ← EL4.out]; exact EL6.out) ZL1.out ZL4.out ZL6.out _ _ _ _ _ Ha.out Hb2.out).mono ?_
  rintro e V9 ⟨xr1, yr1, rfl, hr, g⟩
  replace Ha := Lib.hid (Ha.out.grown g)
  replace Hb := Lib.hid (Hb.out.grown g)
  replace Hc := Lib.hid (Hc.out.grown g)
  replace Hb2 := Lib.hid (Hb2.out.grown g)
  replace Hcj := Lib.hid (Hcj.out.grown g)
  replace HB8 := Lib.hid (And.intro (World.grownBy.cell g HB8.out.1 (by simp)) (World.grownBy.cell g HB8.out.2 (by simp)))
  replace HB9 := Lib.hid (And.intro (World.grownBy.cell g HB9.out.1 (by simp)) (World.grownBy.cell g HB9.out.2 (by simp)))
  replace HB10 := Lib.hid (And.intro (World.grownBy.cell g HB10.out.1 (by simp)) (World.grownBy.cell g HB10.out.2 (by simp)))
  replace HRB := Lib.hid (And.intro (World.grownBy.cell g HRB.out.1 (by simp)) (And.intro (World.grownBy.cell g HRB.out.2.1 (by simp)) (And.intro (World.grownBy.cell g HRB.out.2.2.1 (by simp)) (And.intro (World.grownBy.cell g HRB.out.2.2.2.1 (by simp)) (World.grownBy.cell g HRB.out.2.2.2.2 (by simp))))))
  replace HR := Lib.hid (HR.out.grown g)
  replace HT := Lib.hid (And.intro (World.grownBy.cell g HT.out.1 (by simp)) (And.intro (World.grownBy.cell g HT.out.2.1 (by simp)) (And.intro (World.grownBy.cell g HT.out.2.2.1 (by simp)) (And.intro (World.grownBy.cell g HT.out.2.2.2.1 (by simp)) (And.intro (World.grownBy.cell g HT.out.2.2.2.2.1 (by simp)) (World.grownBy.cell g HT.out.2.2.2.2.2 (by simp)))))))
  replace HG := Lib.hid (World.grownBy.trans HG.out g)
  clear g
  have Hr1 := Lib.hid hr
  clear hr
  have qB80 := HB8.out.1
  have qB81 := HB8.out.2
  have qB90 := HB9.out.1
  have qB91 := HB9.out.2
  have qB100 := HB10.out.1
  have qB101 := HB10.out.2
  have qr0 := HRB.out.1
  have qr1 := HRB.out.2.1
  have qr2 := HRB.out.2.2.1
  have qr3 := HRB.out.2.2.2.1
  have qr4 := HRB.out.2.2.2.2
  have t0 := HT.out.1
  have t1 := HT.out.2.1
  have t2 := HT.out.2.2.1
  have t3 := HT.out.2.2.2.1
  have t4 := HT.out.2.2.2.2.1
  have t5 := HT.out.2.2.2.2.2
  go_upto_region 7 with fail
  clear qB80 qB81 qB90 qB91 qB100 qB101 qr0 qr1 qr2 qr3 qr4 t0 t1 t2 t3 t4 t5
  have hbx := one_cells V9 (.int .i64 (k : Nat)) (.slice xr1 lL6 yr1) 27
  have g := World.grownBy_alloc V9 (.cells #[.int .i64 (k : Nat), .slice xr1 lL6 yr1] 27) none
  obtain ⟨V10, hV10⟩ : ∃ z, World.alloc V9 (.cells #[.int .i64 (k : Nat), .slice xr1 lL6 yr1] 27) = z := ⟨_, rfl⟩
  rw [hV10] at g hbx ⊢
  clear hV10
  obtain ⟨bB11, hb⟩ : ∃ b, V9.heap.size = b := ⟨_, rfl⟩
  rw [hb] at hbx ⊢
  clear hb
  replace Ha := Lib.hid (Ha.out.grown g)
  replace Hb := Lib.hid (Hb.out.grown g)
  replace Hc := Lib.hid (Hc.out.grown g)
  replace Hb2 := Lib.hid (Hb2.out.grown g)
  replace Hcj := Lib.hid (Hcj.out.grown g)
  replace Hr1 := Lib.hid (Hr1.out.grown g)
  replace HB8 := Lib.hid (And.intro (World.grownBy.cell g HB8.out.1 (by simp)) (World.grownBy.cell g HB8.out.2 (by simp)))
  replace HB9 := Lib.hid (And.intro (World.grownBy.cell g HB9.out.1 (by simp)) (World.grownBy.cell g HB9.out.2 (by simp)))
  replace HB10 := Lib.hid (And.intro (World.grownBy.cell g HB10.out.1 (by simp)) (World.grownBy.cell g HB10.out.2 (by simp)))
  replace HRB := Lib.hid (And.intro (World.grownBy.cell g HRB.out.1 (by simp)) (And.intro (World.grownBy.cell g HRB.out.2.1 (by simp)) (And.intro (World.grownBy.cell g HRB.out.2.2.1 (by simp)) (And.intro (World.grownBy.cell g HRB.out.2.2.2.1 (by simp)) (World.grownBy.cell g HRB.out.2.2.2.2 (by simp))))))
  replace HR := Lib.hid (HR.out.grown g)
  replace HT := Lib.hid (And.intro (World.grownBy.cell g HT.out.1 (by simp)) (And.intro (World.grownBy.cell g HT.out.2.1 (by simp)) (And.intro (World.grownBy.cell g HT.out.2.2.1 (by simp)) (And.intro (World.grownBy.cell g HT.out.2.2.2.1 (by simp)) (And.intro (World.grownBy.cell g HT.out.2.2.2.2.1 (by simp)) (World.grownBy.cell g HT.out.2.2.2.2.2 (by simp)))))))
  replace HG := Lib.hid (World.grownBy.trans HG.out g)
  clear g
  have HB11 := Lib.hid (And.intro hbx.2.1 hbx.2.2.1)
  clear hbx
  have qB80 := HB8.out.1
  have qB81 := HB8.out.2
  have qB90 := HB9.out.1
  have qB91 := HB9.out.2
  have qB100 := HB10.out.1
  have qB101 := HB10.out.2
  have qB110 := HB11.out.1
  have qB111 := HB11.out.2
  have qr0 := HRB.out.1
  have qr1 := HRB.out.2.1
  have qr2 := HRB.out.2.2.1
  have qr3 := HRB.out.2.2.2.1
  have qr4 := HRB.out.2.2.2.2
  have t0 := HT.out.1
  have t1 := HT.out.2.1
  have t2 := HT.out.2.2.1
  have t3 := HT.out.2.2.2.1
  have t4 := HT.out.2.2.2.2.1
  have t5 := HT.out.2.2.2.2.2
  go_wp2_with fail
  clear qB80 qB81 qB90 qB91 qB100 qB101 qB110 qB111 qr0 qr1 qr2 qr3 qr4 t0 t1 t2 t3 t4 t5
  refine (joinV (k := 2) (j := j) j (by omega) vL4.out vL5.out hn1 hn5 (by omega) (by omega) hj1 hj3 (by omega) (by omega) (by rw [← EL4.out, ← EL5.out]; exact EL7.out) ZL4.out ZL5.out ZL7.out _ _ _ _ _ Hb2.out Hcj.out).mono ?_
  rintro e V11 ⟨xr2, yr2, rfl, hr, g⟩
  replace Ha := Lib.hid (Ha.out.grown g)
  replace Hb := Lib.hid (Hb.out.grown g)
  replace Hc := Lib.hid (Hc.out.grown g)
  replace Hb2 := Lib.hid (Hb2.out.grown g)
  replace Hcj := Lib.hid (Hcj.out.grown g)
  replace Hr1 := Lib.hid (Hr1.out.grown g)
  replace HB8 := Lib.hid (And.intro (World.grownBy.cell g HB8.out.1 (by simp)) (World.grownBy.cell g HB8.out.2 (by simp)))
  replace HB9 := Lib.hid (And.intro (World.grownBy.cell g HB9.out.1 (by simp)) (World.grownBy.cell g HB9.out.2 (by simp)))
  replace HB10 := Lib.hid (And.intro (World.grownBy.cell g HB10.out.1 (by simp)) (World.grownBy.cell g HB10.out.2 (by simp)))
  replace HB11 := Lib.hid (And.intro (World.grownBy.cell g HB11.out.1 (by simp)) (World.grownBy.cell g HB11.out.2 (by simp)))
  replace HRB := Lib.hid (And.intro (World.grownBy.cell g HRB.out.1 (by simp)) (And.intro (World.grownBy.cell g HRB.out.2.1 (by simp)) (And.intro (World.grownBy.cell g HRB.out.2.2.1 (by simp)) (And.intro (World.grownBy.cell g HRB.out.2.2.2.1 (by simp)) (World.grownBy.cell g HRB.out.2.2.2.2 (by simp))))))
  replace HR := Lib.hid (HR.out.grown g)
  replace HT := Lib.hid (And.intro (World.grownBy.cell g HT.out.1 (by simp)) (And.intro (World.grownBy.cell g HT.out.2.1 (by simp)) (And.intro (World.grownBy.cell g HT.out.2.2.1 (by simp)) (And.intro (World.grownBy.cell g HT.out.2.2.2.1 (by simp)) (And.intro (World.grownBy.cell g HT.out.2.2.2.2.1 (by simp)) (World.grownBy.cell g HT.out.2.2.2.2.2 (by simp)))))))
  replace HG := Lib.hid (World.grownBy.trans HG.out g)
  clear g
  have Hr2 := Lib.hid hr
  clear hr
  have qB80 := HB8.out.1
  have qB81 := HB8.out.2
  have qB90 := HB9.out.1
  have qB91 := HB9.out.2
  have qB100 := HB10.out.1
  have qB101 := HB10.out.2
  have qB110 := HB11.out.1
  have qB111 := HB11.out.2
  have qr0 := HRB.out.1
  have qr1 := HRB.out.2.1
  have qr2 := HRB.out.2.2.1
  have qr3 := HRB.out.2.2.2.1
  have qr4 := HRB.out.2.2.2.2
  have t0 := HT.out.1
  have t1 := HT.out.2.1
  have t2 := HT.out.2.2.1
  have t3 := HT.out.2.2.2.1
  have t4 := HT.out.2.2.2.2.1
  have t5 := HT.out.2.2.2.2.2
  go_upto_region 8 with fail
  clear qB80 qB81 qB90 qB91 qB100 qB101 qB110 qB111 qr0 qr1 qr2 qr3 qr4 t0 t1 t2 t3 t4 t5
  have hbx := one_cells V11 (.int .i64 (j : Nat)) (.slice xr2 lL7 yr2) 27
  have g := World.grownBy_alloc V11 (.cells #[.int .i64 (j : Nat), .slice xr2 lL7 yr2] 27) none
  obtain ⟨V12, hV12⟩ : ∃ z, World.alloc V11 (.cells #[.int .i64 (j : Nat), .slice xr2 lL7 yr2] 27) = z := ⟨_, rfl⟩
  rw [hV12] at g hbx ⊢
  clear hV12
  obtain ⟨bB13, hb⟩ : ∃ b, V11.heap.size = b := ⟨_, rfl⟩
  rw [hb] at hbx ⊢
  clear hb
  replace Ha := Lib.hid (Ha.out.grown g)
  replace Hb := Lib.hid (Hb.out.grown g)
  replace Hc := Lib.hid (Hc.out.grown g)
  replace Hb2 := Lib.hid (Hb2.out.grown g)
  replace Hcj := Lib.hid (Hcj.out.grown g)
  replace Hr1 := Lib.hid (Hr1.out.grown g)
  replace Hr2 := Lib.hid (Hr2.out.grown g)
  replace HB8 := Lib.hid (And.intro (World.grownBy.cell g HB8.out.1 (by simp)) (World.grownBy.cell g HB8.out.2 (by simp)))
  replace HB9 := Lib.hid (And.intro (World.grownBy.cell g HB9.out.1 (by simp)) (World.grownBy.cell g HB9.out.2 (by simp)))
  replace HB10 := Lib.hid (And.intro (World.grownBy.cell g HB10.out.1 (by simp)) (World.grownBy.cell g HB10.out.2 (by simp)))
  replace HB11 := Lib.hid (And.intro (World.grownBy.cell g HB11.out.1 (by simp)) (World.grownBy.cell g HB11.out.2 (by simp)))
  replace HRB := Lib.hid (And.intro (World.grownBy.cell g HRB.out.1 (by simp)) (And.intro (World.grownBy.cell g HRB.out.2.1 (by simp)) (And.intro (World.grownBy.cell g HRB.out.2.2.1 (by simp)) (And.intro (World.grownBy.cell g HRB.out.2.2.2.1 (by simp)) (World.grownBy.cell g HRB.out.2.2.2.2 (by simp))))))
  replace HR := Lib.hid (HR.out.grown g)
  replace HT := Lib.hid (And.intro (World.grownBy.cell g HT.out.1 (by simp)) (And.intro (World.grownBy.cell g HT.out.2.1 (by simp)) (And.intro (World.grownBy.cell g HT.out.2.2.1 (by simp)) (And.intro (World.grownBy.cell g HT.out.2.2.2.1 (by simp)) (And.intro (World.grownBy.cell g HT.out.2.2.2.2.1 (by simp)) (World.grownBy.cell g HT.out.2.2.2.2.2 (by simp)))))))
  replace HG := Lib.hid (World.grownBy.trans HG.out g)
  clear g
  have HB13 := Lib.hid (And.intro hbx.2.1 hbx.2.2.1)
  clear hbx
  have qB80 := HB8.out.1
  have qB81 := HB8.out.2
  have qB90 := HB9.out.1
  have qB91 := HB9.out.2
  have qB100 := HB10.out.1
  have qB101 := HB10.out.2
  have qB110 := HB11.out.1
  have qB111 := HB11.out.2
  have qB130 := HB13.out.1
  have qB131 := HB13.out.2
  have qr0 := HRB.out.1
  have qr1 := HRB.out.2.1
  have qr2 := HRB.out.2.2.1
  have qr3 := HRB.out.2.2.2.1
  have qr4 := HRB.out.2.2.2.2
  have t0 := HT.out.1
  have t1 := HT.out.2.1
  have t2 := HT.out.2.2.1
  have t3 := HT.out.2.2.2.1
  have t4 := HT.out.2.2.2.2.1
  have t5 := HT.out.2.2.2.2.2
  go_wp2_with fail
  clear qB80 qB81 qB90 qB91 qB100 qB101 qB110 qB111 qB130 qB131 qr0 qr1 qr2 qr3 qr4 t0 t1 t2 t3 t4 t5
  refine (CX1.out _ _ _ _ _ Hr1.out Hcj.out).mono ?_
  rintro e V13 ⟨xr3, yr3, rfl, hr, g⟩
  replace Ha := Lib.hid (Ha.out.grown g)
  replace Hb := Lib.hid (Hb.out.grown g)
  replace Hc := Lib.hid (Hc.out.grown g)
  replace Hb2 := Lib.hid (Hb2.out.grown g)
  replace Hcj := Lib.hid (Hcj.out.grown g)
  replace Hr1 := Lib.hid (Hr1.out.grown g)
  replace Hr2 := Lib.hid (Hr2.out.grown g)
  replace HB8 := Lib.hid (And.intro (World.grownBy.cell g HB8.out.1 (by simp)) (World.grownBy.cell g HB8.out.2 (by simp)))
  replace HB9 := Lib.hid (And.intro (World.grownBy.cell g HB9.out.1 (by simp)) (World.grownBy.cell g HB9.out.2 (by simp)))
  replace HB10 := Lib.hid (And.intro (World.grownBy.cell g HB10.out.1 (by simp)) (World.grownBy.cell g HB10.out.2 (by simp)))
  replace HB11 := Lib.hid (And.intro (World.grownBy.cell g HB11.out.1 (by simp)) (World.grownBy.cell g HB11.out.2 (by simp)))
  replace HB13 := Lib.hid (And.intro (World.grownBy.cell g HB13.out.1 (by simp)) (World.grownBy.cell g HB13.out.2 (by simp)))
  replace HRB := Lib.hid (And.intro (World.grownBy.cell g HRB.out.1 (by simp)) (And.intro (World.grownBy.cell g HRB.out.2.1 (by simp)) (And.intro (World.grownBy.cell g HRB.out.2.2.1 (by simp)) (And.intro (World.grownBy.cell g HRB.out.2.2.2.1 (by simp)) (World.grownBy.cell g HRB.out.2.2.2.2 (by simp))))))
  replace HR := Lib.hid (HR.out.grown g)
  replace HT := Lib.hid (And.intro (World.grownBy.cell g HT.out.1 (by simp)) (And.intro (World.grownBy.cell g HT.out.2.1 (by simp)) (And.intro (World.grownBy.cell g HT.out.2.2.1 (by simp)) (And.intro (World.grownBy.cell g HT.out.2.2.2.1 (by simp)) (And.intro (World.grownBy.cell g HT.out.2.2.2.2.1 (by simp)) (World.grownBy.cell g HT.out.2.2.2.2.2 (by simp)))))))
  replace HG := Lib.hid (World.grownBy.trans HG.out g)
  clear g
  have Hr3 := Lib.hid hr
  clear hr
  have qB80 := HB8.out.1
  have qB81 := HB8.out.2
  have qB90 := HB9.out.1
  have qB91 := HB9.out.2
  have qB100 := HB10.out.1
  have qB101 := HB10.out.2
  have qB110 := HB11.out.1
  have qB111 := HB11.out.2
  have qB130 := HB13.out.1
  have qB131 := HB13.out.2
  have qr0 := HRB.out.1
  have qr1 := HRB.out.2.1
  have qr2 := HRB.out.2.2.1
  have qr3 := HRB.out.2.2.2.1
  have qr4 := HRB.out.2.2.2.2
  have t0 := HT.out.1
  have t1 := HT.out.2.1
  have t2 := HT.out.2.2.1
  have t3 := HT.out.2.2.2.1
  have t4 := HT.out.2.2.2.2.1
  have t5 := HT.out.2.2.2.2.2
  go_upto_region 9 with fail
  clear qB80 qB81 qB90 qB91 qB100 qB101 qB110 qB111 qB130 qB131 qr0 qr1 qr2 qr3 qr4 t0 t1 t2 t3 t4 t5
  have hbx := one_cells V13 (.int .i64 (qq : Nat)) (.slice xr3 lLQ yr3) 27
  have g := World.grownBy_alloc V13 (.cells #[.int .i64 (qq : Nat), .slice xr3 lLQ yr3] 27) none
  obtain ⟨V14, hV14⟩ : ∃ z, World.alloc V13 (.cells #[.int .i64 (qq : Nat), .slice xr3 lLQ yr3] 27) = z := ⟨_, rfl⟩
  rw [hV14] at g hbx ⊢
  clear hV14
  obtain ⟨bB15, hb⟩ : ∃ b, V13.heap.size = b := ⟨_, rfl⟩
  rw [hb] at hbx ⊢
  clear hb
  replace Ha := Lib.hid (Ha.out.grown g)
  replace Hb := Lib.hid (Hb.out.grown g)
  replace Hc := Lib.hid (Hc.out.grown g)
  replace Hb2 := Lib.hid (Hb2.out.grown g)
  replace Hcj := Lib.hid (Hcj.out.grown g)
  replace Hr1 := Lib.hid (Hr1.out.grown g)
  replace Hr2 := Lib.hid (Hr2.out.grown g)
  replace Hr3 := Lib.hid (Hr3.out.grown g)
  replace HB8 := Lib.hid (And.intro (World.grownBy.cell g HB8.out.1 (by simp)) (World.grownBy.cell g HB8.out.2 (by simp)))
  replace HB9 := Lib.hid (And.intro (World.grownBy.cell g HB9.out.1 (by simp)) (World.grownBy.cell g HB9.out.2 (by simp)))
  replace HB10 := Lib.hid (And.intro (World.grownBy.cell g HB10.out.1 (by simp)) (World.grownBy.cell g HB10.out.2 (by simp)))
  replace HB11 := Lib.hid (And.intro (World.grownBy.cell g HB11.out.1 (by simp)) (World.grownBy.cell g HB11.out.2 (by simp)))
  replace HB13 := Lib.hid (And.intro (World.grownBy.cell g HB13.out.1 (by simp)) (World.grownBy.cell g HB13.out.2 (by simp)))
  replace HRB := Lib.hid (And.intro (World.grownBy.cell g HRB.out.1 (by simp)) (And.intro (World.grownBy.cell g HRB.out.2.1 (by simp)) (And.intro (World.grownBy.cell g HRB.out.2.2.1 (by simp)) (And.intro (World.grownBy.cell g HRB.out.2.2.2.1 (by simp)) (World.grownBy.cell g HRB.out.2.2.2.2 (by simp))))))
  replace HR := Lib.hid (HR.out.grown g)
  replace HT := Lib.hid (And.intro (World.grownBy.cell g HT.out.1 (by simp)) (And.intro (World.grownBy.cell g HT.out.2.1 (by simp)) (And.intro (World.grownBy.cell g HT.out.2.2.1 (by simp)) (And.intro (World.grownBy.cell g HT.out.2.2.2.1 (by simp)) (And.intro (World.grownBy.cell g HT.out.2.2.2.2.1 (by simp)) (World.grownBy.cell g HT.out.2.2.2.2.2 (by simp)))))))
  replace HG := Lib.hid (World.grownBy.trans HG.out g)
  clear g
  have HB15 := Lib.hid (And.intro hbx.2.1 hbx.2.2.1)
  clear hbx
  have qB80 := HB8.out.1
  have qB81 := HB8.out.2
  have qB90 := HB9.out.1
  have qB91 := HB9.out.2
  have qB100 := HB10.out.1
  have qB101 := HB10.out.2
  have qB110 := HB11.out.1
  have qB111 := HB11.out.2
  have qB130 := HB13.out.1
  have qB131 := HB13.out.2
  have qB150 := HB15.out.1
  have qB151 := HB15.out.2
  have qr0 := HRB.out.1
  have qr1 := HRB.out.2.1
  have qr2 := HRB.out.2.2.1
  have qr3 := HRB.out.2.2.2.1
  have qr4 := HRB.out.2.2.2.2
  have t0 := HT.out.1
  have t1 := HT.out.2.1
  have t2 := HT.out.2.2.1
  have t3 := HT.out.2.2.2.1
  have t4 := HT.out.2.2.2.2.1
  have t5 := HT.out.2.2.2.2.2
  go_wp2_with fail
  clear qB80 qB81 qB90 qB91 qB100 qB101 qB110 qB111 qB130 qB131 qB150 qB151 qr0 qr1 qr2 qr3 qr4 t0 t1 t2 t3 t4 t5
  refine (CX2.out _ _ _ _ _ Ha.out Hr2.out).mono ?_
  rintro e V15 ⟨xr4, yr4, rfl, hr, g⟩
  replace Ha := Lib.hid (Ha.out.grown g)
  replace Hb := Lib.hid (Hb.out.grown g)
  replace Hc := Lib.hid (Hc.out.grown g)
  replace Hb2 := Lib.hid (Hb2.out.grown g)
  replace Hcj := Lib.hid (Hcj.out.grown g)
  replace Hr1 := Lib.hid (Hr1.out.grown g)
  replace Hr2 := Lib.hid (Hr2.out.grown g)
  replace Hr3 := Lib.hid (Hr3.out.grown g)
  replace HB8 := Lib.hid (And.intro (World.grownBy.cell g HB8.out.1 (by simp)) (World.grownBy.cell g HB8.out.2 (by simp)))
  replace HB9 := Lib.hid (And.intro (World.grownBy.cell g HB9.out.1 (by simp)) (World.grownBy.cell g HB9.out.2 (by simp)))
  replace HB10 := Lib.hid (And.intro (World.grownBy.cell g HB10.out.1 (by simp)) (World.grownBy.cell g HB10.out.2 (by simp)))
  replace HB11 := Lib.hid (And.intro (World.grownBy.cell g HB11.out.1 (by simp)) (World.grownBy.cell g HB11.out.2 (by simp)))
  replace HB13 := Lib.hid (And.intro (World.grownBy.cell g HB13.out.1 (by simp)) (World.grownBy.cell g HB13.out.2 (by simp)))
  replace HB15 := Lib.hid (And.intro (World.grownBy.cell g HB15.out.1 (by simp)) (World.grownBy.cell g HB15.out.2 (by simp)))
  replace HRB := Lib.hid (And.intro (World.grownBy.cell g HRB.out.1 (by simp)) (And.intro (World.grownBy.cell g HRB.out.2.1 (by simp)) (And.intro (World.grownBy.cell g HRB.out.2.2.1 (by simp)) (And.intro (World.grownBy.cell g HRB.out.2.2.2.1 (by simp)) (World.grownBy.cell g HRB.out.2.2.2.2 (by simp))))))
  replace HR := Lib.hid (HR.out.grown g)
  replace HT := Lib.hid (And.intro (World.grownBy.cell g HT.out.1 (by simp)) (And.intro (World.grownBy.cell g HT.out.2.1 (by simp)) (And.intro (World.grownBy.cell g HT.out.2.2.1 (by simp)) (And.intro (World.grownBy.cell g HT.out.2.2.2.1 (by simp)) (And.intro (World.grownBy.cell g HT.out.2.2.2.2.1 (by simp)) (World.grownBy.cell g HT.out.2.2.2.2.2 (by simp)))))))
  replace HG := Lib.hid (World.grownBy.trans HG.out g)
  clear g
  have Hr4 := Lib.hid hr
  clear hr
  have qB80 := HB8.out.1
  have qB81 := HB8.out.2
  have qB90 := HB9.out.1
  have qB91 := HB9.out.2
  have qB100 := HB10.out.1
  have qB101 := HB10.out.2
  have qB110 := HB11.out.1
  have qB111 := HB11.out.2
  have qB130 := HB13.out.1
  have qB131 := HB13.out.2
  have qB150 := HB15.out.1
  have qB151 := HB15.out.2
  have qr0 := HRB.out.1
  have qr1 := HRB.out.2.1
  have qr2 := HRB.out.2.2.1
  have qr3 := HRB.out.2.2.2.1
  have qr4 := HRB.out.2.2.2.2
  have t0 := HT.out.1
  have t1 := HT.out.2.1
  have t2 := HT.out.2.2.1
  have t3 := HT.out.2.2.2.1
  have t4 := HT.out.2.2.2.2.1
  have t5 := HT.out.2.2.2.2.2
  go_upto_region 10 with fail
  clear qB80 qB81 qB90 qB91 qB100 qB101 qB110 qB111 qB130 qB131 qB150 qB151 qr0 qr1 qr2 qr3 qr4 t0 t1 t2 t3 t4 t5
  have hbx := one_cells V15 (.int .i64 (qq : Nat)) (.slice xr4 lLQ yr4) 27
  have g := World.grownBy_alloc V15 (.cells #[.int .i64 (qq : Nat), .slice xr4 lLQ yr4] 27) none
  obtain ⟨V16, hV16⟩ : ∃ z, World.alloc V15 (.cells #[.int .i64 (qq : Nat), .slice xr4 lLQ yr4] 27) = z := ⟨_, rfl⟩
  rw [hV16] at g hbx ⊢
  clear hV16
  obtain ⟨bB17, hb⟩ : ∃ b, V15.heap.size = b := ⟨_, rfl⟩
  rw [hb] at hbx ⊢
  clear hb
  replace Ha := Lib.hid (Ha.out.grown g)
  replace Hb := Lib.hid (Hb.out.grown g)
  replace Hc := Lib.hid (Hc.out.grown g)
  replace Hb2 := Lib.hid (Hb2.out.grown g)
  replace Hcj := Lib.hid (Hcj.out.grown g)
  replace Hr1 := Lib.hid (Hr1.out.grown g)
  replace Hr2 := Lib.hid (Hr2.out.grown g)
  replace Hr3 := Lib.hid (Hr3.out.grown g)
  replace Hr4 := Lib.hid (Hr4.out.grown g)
  replace HB8 := Lib.hid (And.intro (World.grownBy.cell g HB8.out.1 (by simp)) (World.grownBy.cell g HB8.out.2 (by simp)))
  replace HB9 := Lib.hid (And.intro (World.grownBy.cell g HB9.out.1 (by simp)) (World.grownBy.cell g HB9.out.2 (by simp)))
  replace HB10 := Lib.hid (And.intro (World.grownBy.cell g HB10.out.1 (by simp)) (World.grownBy.cell g HB10.out.2 (by simp)))
  replace HB11 := Lib.hid (And.intro (World.grownBy.cell g HB11.out.1 (by simp)) (World.grownBy.cell g HB11.out.2 (by simp)))
  replace HB13 := Lib.hid (And.intro (World.grownBy.cell g HB13.out.1 (by simp)) (World.grownBy.cell g HB13.out.2 (by simp)))
  replace HB15 := Lib.hid (And.intro (World.grownBy.cell g HB15.out.1 (by simp)) (World.grownBy.cell g HB15.out.2 (by simp)))
  replace HRB := Lib.hid (And.intro (World.grownBy.cell g HRB.out.1 (by simp)) (And.intro (World.grownBy.cell g HRB.out.2.1 (by simp)) (And.intro (World.grownBy.cell g HRB.out.2.2.1 (by simp)) (And.intro (World.grownBy.cell g HRB.out.2.2.2.1 (by simp)) (World.grownBy.cell g HRB.out.2.2.2.2 (by simp))))))
  replace HR := Lib.hid (HR.out.grown g)
  replace HT := Lib.hid (And.intro (World.grownBy.cell g HT.out.1 (by simp)) (And.intro (World.grownBy.cell g HT.out.2.1 (by simp)) (And.intro (World.grownBy.cell g HT.out.2.2.1 (by simp)) (And.intro (World.grownBy.cell g HT.out.2.2.2.1 (by simp)) (And.intro (World.grownBy.cell g HT.out.2.2.2.2.1 (by simp)) (World.grownBy.cell g HT.out.2.2.2.2.2 (by simp)))))))
  replace HG := Lib.hid (World.grownBy.trans HG.out g)
  clear g
  have HB17 := Lib.hid (And.intro hbx.2.1 hbx.2.2.1)
  clear hbx
  have qB80 := HB8.out.1
  have qB81 := HB8.out.2
  have qB90 := HB9.out.1
  have qB91 := HB9.out.2
  have qB100 := HB10.out.1
  have qB101 := HB10.out.2
  have qB110 := HB11.out.1
  have qB111 := HB11.out.2
  have qB130 := HB13.out.1
  have qB131 := HB13.out.2
  have qB150 := HB15.out.1
  have qB151 := HB15.out.2
  have qB170 := HB17.out.1
  have qB171 := HB17.out.2
  have qr0 := HRB.out.1
  have qr1 := HRB.out.2.1
  have qr2 := HRB.out.2.2.1
  have qr3 := HRB.out.2.2.2.1
  have qr4 := HRB.out.2.2.2.2
  have t0 := HT.out.1
  have t1 := HT.out.2.1
  have t2 := HT.out.2.2.1
  have t3 := HT.out.2.2.2.1
  have t4 := HT.out.2.2.2.2.1
  have t5 := HT.out.2.2.2.2.2
  go_wp2_with fail
  clear qB80 qB81 qB90 qB91 qB100 qB101 qB110 qB111 qB130 qB131 qB150 qB151 qB170 qB171 qr0 qr1 qr2 qr3 qr4 t0 t1 t2 t3 t4 t5
  refine (equalV (k := qq) (Q := true) (qq : Nat) (qq : Nat) vLQ.out hn5 hq3 (eqQ _ (rfl : LQ = LQ)) ZLQ.out ZLQ.out _ _ _ _ _ Hr3.out Hr4.out).mono ?_
  rintro e V17 ⟨rfl, g⟩
  replace Ha := Lib.hid (Ha.out.grown g)
  replace Hb := Lib.hid (Hb.out.grown g)
  replace Hc := Lib.hid (Hc.out.grown g)
  replace Hb2 := Lib.hid (Hb2.out.grown g)
  replace Hcj := Lib.hid (Hcj.out.grown g)
  replace Hr1 := Lib.hid (Hr1.out.grown g)
  replace Hr2 := Lib.hid (Hr2.out.grown g)
  replace Hr3 := Lib.hid (Hr3.out.grown g)
  replace Hr4 := Lib.hid (Hr4.out.grown g)
  replace HB8 := Lib.hid (And.intro (World.grownBy.cell g HB8.out.1 (by simp)) (World.grownBy.cell g HB8.out.2 (by simp)))
  replace HB9 := Lib.hid (And.intro (World.grownBy.cell g HB9.out.1 (by simp)) (World.grownBy.cell g HB9.out.2 (by simp)))
  replace HB10 := Lib.hid (And.intro (World.grownBy.cell g HB10.out.1 (by simp)) (World.grownBy.cell g HB10.out.2 (by simp)))
  replace HB11 := Lib.hid (And.intro (World.grownBy.cell g HB11.out.1 (by simp)) (World.grownBy.cell g HB11.out.2 (by simp)))
  replace HB13 := Lib.hid (And.intro (World.grownBy.cell g HB13.out.1 (by simp)) (World.grownBy.cell g HB13.out.2 (by simp)))
  replace HB15 := Lib.hid (And.intro (World.grownBy.cell g HB15.out.1 (by simp)) (World.grownBy.cell g HB15.out.2 (by simp)))
  replace HB17 := Lib.hid (And.intro (World.grownBy.cell g HB17.out.1 (by simp)) (World.grownBy.cell g HB17.out.2 (by simp)))
  replace HRB := Lib.hid (And.intro (World.grownBy.cell g HRB.out.1 (by simp)) (And.intro (World.grownBy.cell g HRB.out.2.1 (by simp)) (And.intro (World.grownBy.cell g HRB.out.2.2.1 (by simp)) (And.intro (World.grownBy.cell g HRB.out.2.2.2.1 (by simp)) (World.grownBy.cell g HRB.out.2.2.2.2 (by simp))))))
  replace HR := Lib.hid (HR.out.grown g)
  replace HT := Lib.hid (And.intro (World.grownBy.cell g HT.out.1 (by simp)) (And.intro (World.grownBy.cell g HT.out.2.1 (by simp)) (And.intro (World.grownBy.cell g HT.out.2.2.1 (by simp)) (And.intro (World.grownBy.cell g HT.out.2.2.2.1 (by simp)) (And.intro (World.grownBy.cell g HT.out.2.2.2.2.1 (by simp)) (World.grownBy.cell g HT.out.2.2.2.2.2 (by simp)))))))
  replace HG := Lib.hid (World.grownBy.trans HG.out g)
  clear g
  have qB80 := HB8.out.1
  have qB81 := HB8.out.2
  have qB90 := HB9.out.1
  have qB91 := HB9.out.2
  have qB100 := HB10.out.1
  have qB101 := HB10.out.2
  have qB110 := HB11.out.1
  have qB111 := HB11.out.2
  have qB130 := HB13.out.1
  have qB131 := HB13.out.2
  have qB150 := HB15.out.1
  have qB151 := HB15.out.2
  have qB170 := HB17.out.1
  have qB171 := HB17.out.2
  have qr0 := HRB.out.1
  have qr1 := HRB.out.2.1
  have qr2 := HRB.out.2.2.1
  have qr3 := HRB.out.2.2.2.1
  have qr4 := HRB.out.2.2.2.2
  have t0 := HT.out.1
  have t1 := HT.out.2.1
  have t2 := HT.out.2.2.1
  have t3 := HT.out.2.2.2.1
  have t4 := HT.out.2.2.2.2.1
  have t5 := HT.out.2.2.2.2.2
  go_upto_region 12 with fail
  clear qB80 qB81 qB90 qB91 qB100 qB101 qB110 qB111 qB130 qB131 qB150 qB151 qB170 qB171 qr0 qr1 qr2 qr3 qr4 t0 t1 t2 t3 t4 t5
  have qB80 := HB8.out.1
  have qB81 := HB8.out.2
  have qB90 := HB9.out.1
  have qB91 := HB9.out.2
  have qB100 := HB10.out.1
  have qB101 := HB10.out.2
  have qB110 := HB11.out.1
  have qB111 := HB11.out.2
  have qB130 := HB13.out.1
  have qB131 := HB13.out.2
  have qB150 := HB15.out.1
  have qB151 := HB15.out.2
  have qB170 := HB17.out.1
  have qB171 := HB17.out.2
  have qr0 := HRB.out.1
  have qr1 := HRB.out.2.1
  have qr2 := HRB.out.2.2.1
  have qr3 := HRB.out.2.2.2.1
  have qr4 := HRB.out.2.2.2.2
  have t0 := HT.out.1
  have t1 := HT.out.2.1
  have t2 := HT.out.2.2.1
  have t3 := HT.out.2.2.2.1
  have t4 := HT.out.2.2.2.2.1
  have t5 := HT.out.2.2.2.2.2
  go_wp2_with fail
  clear qB80 qB81 qB90 qB91 qB100 qB101 qB110 qB111 qB130 qB131 qB150 qB151 qB170 qB171 qr0 qr1 qr2 qr3 qr4 t0 t1 t2 t3 t4 t5
  refine (idenV hn5 EL8.out ZL8.out _).mono ?_
  rintro e V18 ⟨xr6, yr6, rfl, hr, g⟩
  replace Ha := Lib.hid (Ha.out.grown g)
  replace Hb := Lib.hid (Hb.out.grown g)
  replace Hc := Lib.hid (Hc.out.grown g)
  replace Hb2 := Lib.hid (Hb2.out.grown g)
  replace Hcj := Lib.hid (Hcj.out.grown g)
  replace Hr1 := Lib.hid (Hr1.out.grown g)
  replace Hr2 := Lib.hid (Hr2.out.grown g)
  replace Hr3 := Lib.hid (Hr3.out.grown g)
  replace Hr4 := Lib.hid (Hr4.out.grown g)
  replace HB8 := Lib.hid (And.intro (World.grownBy.cell g HB8.out.1 (by simp)) (World.grownBy.cell g HB8.out.2 (by simp)))
  replace HB9 := Lib.hid (And.intro (World.grownBy.cell g HB9.out.1 (by simp)) (World.grownBy.cell g HB9.out.2 (by simp)))
  replace HB10 := Lib.hid (And.intro (World.grownBy.cell g HB10.out.1 (by simp)) (World.grownBy.cell g HB10.out.2 (by simp)))
  replace HB11 := Lib.hid (And.intro (World.grownBy.cell g HB11.out.1 (by simp)) (World.grownBy.cell g HB11.out.2 (by simp)))
  replace HB13 := Lib.hid (And.intro (World.grownBy.cell g HB13.out.1 (by simp)) (World.grownBy.cell g HB13.out.2 (by simp)))
  replace HB15 := Lib.hid (And.intro (World.grownBy.cell g HB15.out.1 (by simp)) (World.grownBy.cell g HB15.out.2 (by simp)))
  replace HB17 := Lib.hid (And.intro (World.grownBy.cell g HB17.out.1 (by simp)) (World.grownBy.cell g HB17.out.2 (by simp)))
  replace HRB := Lib.hid (And.intro (World.grownBy.cell g HRB.out.1 (by simp)) (And.intro (World.grownBy.cell g HRB.out.2.1 (by simp)) (And.intro (World.grownBy.cell g HRB.out.2.2.1 (by simp)) (And.intro (World.grownBy.cell g HRB.out.2.2.2.1 (by simp)) (World.grownBy.cell g HRB.out.2.2.2.2 (by simp))))))
  replace HR := Lib.hid (HR.out.grown g)
  replace HT := Lib.hid (And.intro (World.grownBy.cell g HT.out.1 (by simp)) (And.intro (World.grownBy.cell g HT.out.2.1 (by simp)) (And.intro (World.grownBy.cell g HT.out.2.2.1 (by simp)) (And.intro (World.grownBy.cell g HT.out.2.2.2.1 (by simp)) (And.intro (World.grownBy.cell g HT.out.2.2.2.2.1 (by simp)) (World.grownBy.cell g HT.out.2.2.2.2.2 (by simp)))))))
  replace HG := Lib.hid (World.grownBy.trans HG.out g)
  clear g
  have Hr6 := Lib.hid hr
  clear hr
  have qB80 := HB8.out.1
  have qB81 := HB8.out.2
  have qB90 := HB9.out.1
  have qB91 := HB9.out.2
  have qB100 := HB10.out.1
  have qB101 := HB10.out.2
  have qB110 := HB11.out.1
  have qB111 := HB11.out.2
  have qB130 := HB13.out.1
  have qB131 := HB13.out.2
  have qB150 := HB15.out.1
  have qB151 := HB15.out.2
  have qB170 := HB17.out.1
  have qB171 := HB17.out.2
  have qr0 := HRB.out.1
  have qr1 := HRB.out.2.1
  have qr2 := HRB.out.2.2.1
  have qr3 := HRB.out.2.2.2.1
  have qr4 := HRB.out.2.2.2.2
  have t0 := HT.out.1
  have t1 := HT.out.2.1
  have t2 := HT.out.2.2.1
  have t3 := HT.out.2.2.2.1
  have t4 := HT.out.2.2.2.2.1
  have t5 := HT.out.2.2.2.2.2
  go_upto_region 13 with fail
  clear qB80 qB81 qB90 qB91 qB100 qB101 qB110 qB111 qB130 qB131 qB150 qB151 qB170 qB171 qr0 qr1 qr2 qr3 qr4 t0 t1 t2 t3 t4 t5
  have hbx := one_cells V18 (.int .i64 2) (.slice xr6 lL8 yr6) 27
  have g := World.grownBy_alloc V18 (.cells #[.int .i64 2, .slice xr6 lL8 yr6] 27) none
  obtain ⟨V19, hV19⟩ : ∃ z, World.alloc V18 (.cells #[.int .i64 2, .slice xr6 lL8 yr6] 27) = z := ⟨_, rfl⟩
  rw [hV19] at g hbx ⊢
  clear hV19
  obtain ⟨bB19, hb⟩ : ∃ b, V18.heap.size = b := ⟨_, rfl⟩
  rw [hb] at hbx ⊢
  clear hb
  replace Ha := Lib.hid (Ha.out.grown g)
  replace Hb := Lib.hid (Hb.out.grown g)
  replace Hc := Lib.hid (Hc.out.grown g)
  replace Hb2 := Lib.hid (Hb2.out.grown g)
  replace Hcj := Lib.hid (Hcj.out.grown g)
  replace Hr1 := Lib.hid (Hr1.out.grown g)
  replace Hr2 := Lib.hid (Hr2.out.grown g)
  replace Hr3 := Lib.hid (Hr3.out.grown g)
  replace Hr4 := Lib.hid (Hr4.out.grown g)
  replace Hr6 := Lib.hid (Hr6.out.grown g)
  replace HB8 := Lib.hid (And.intro (World.grownBy.cell g HB8.out.1 (by simp)) (World.grownBy.cell g HB8.out.2 (by simp)))
  replace HB9 := Lib.hid (And.intro (World.grownBy.cell g HB9.out.1 (by simp)) (World.grownBy.cell g HB9.out.2 (by simp)))
  replace HB10 := Lib.hid (And.intro (World.grownBy.cell g HB10.out.1 (by simp)) (World.grownBy.cell g HB10.out.2 (by simp)))
  replace HB11 := Lib.hid (And.intro (World.grownBy.cell g HB11.out.1 (by simp)) (World.grownBy.cell g HB11.out.2 (by simp)))
  replace HB13 := Lib.hid (And.intro (World.grownBy.cell g HB13.out.1 (by simp)) (World.grownBy.cell g HB13.out.2 (by simp)))
  replace HB15 := Lib.hid (And.intro (World.grownBy.cell g HB15.out.1 (by simp)) (World.grownBy.cell g HB15.out.2 (by simp)))
  replace HB17 := Lib.hid (And.intro (World.grownBy.cell g HB17.out.1 (by simp)) (World.grownBy.cell g HB17.out.2 (by simp)))
  replace HRB := Lib.hid (And.intro (World.grownBy.cell g HRB.out.1 (by simp)) (And.intro (World.grownBy.cell g HRB.out.2.1 (by simp)) (And.intro (World.grownBy.cell g HRB.out.2.2.1 (by simp)) (And.intro (World.grownBy.cell g HRB.out.2.2.2.1 (by simp)) (World.grownBy.cell g HRB.out.2.2.2.2 (by simp))))))
  replace HR := Lib.hid (HR.out.grown g)
  replace HT := Lib.hid (And.intro (World.grownBy.cell g HT.out.1 (by simp)) (And.intro (World.grownBy.cell g HT.out.2.1 (by simp)) (And.intro (World.grownBy.cell g HT.out.2.2.1 (by simp)) (And.intro (World.grownBy.cell g HT.out.2.2.2.1 (by simp)) (And.intro (World.grownBy.cell g HT.out.2.2.2.2.1 (by simp)) (World.grownBy.cell g HT.out.2.2.2.2.2 (by simp)))))))
  replace HG := Lib.hid (World.grownBy.trans HG.out g)
  clear g
  have HB19 := Lib.hid (And.intro hbx.2.1 hbx.2.2.1)
  clear hbx
  have qB80 := HB8.out.1
  have qB81 := HB8.out.2
  have qB90 := HB9.out.1
  have qB91 := HB9.out.2
  have qB100 := HB10.out.1
  have qB101 := HB10.out.2
  have qB110 := HB11.out.1
  have qB111 := HB11.out.2
  have qB130 := HB13.out.1
  have qB131 := HB13.out.2
  have qB150 := HB15.out.1
  have qB151 := HB15.out.2
  have qB170 := HB17.out.1
  have qB171 := HB17.out.2
  have qB190 := HB19.out.1
  have qB191 := HB19.out.2
  have qr0 := HRB.out.1
  have qr1 := HRB.out.2.1
  have qr2 := HRB.out.2.2.1
  have qr3 := HRB.out.2.2.2.1
  have qr4 := HRB.out.2.2.2.2
  have t0 := HT.out.1
  have t1 := HT.out.2.1
  have t2 := HT.out.2.2.1
  have t3 := HT.out.2.2.2.1
  have t4 := HT.out.2.2.2.2.1
  have t5 := HT.out.2.2.2.2.2
  go_wp2_with fail
  clear qB80 qB81 qB90 qB91 qB100 qB101 qB110 qB111 qB130 qB131 qB150 qB151 qB170 qB171 qB190 qB191 qr0 qr1 qr2 qr3 qr4 t0 t1 t2 t3 t4 t5
  refine (joinV (k := k) (j := 2) k (by omega) vL1.out vL8.out hn1 hn5 hk1 hk3 (by omega) (by omega) (by omega) (by omega) (by rw [← EL1.out, ← EL8.out]; exact EL9.out) ZL1.out ZL8.out ZL9.out _ _ _ _ _ Ha.out Hr6.out).mono ?_
  rintro e V20 ⟨xr7, yr7, rfl, hr, g⟩
  replace Ha := Lib.hid (Ha.out.grown g)
  replace Hb := Lib.hid (Hb.out.grown g)
  replace Hc := Lib.hid (Hc.out.grown g)
  replace Hb2 := Lib.hid (Hb2.out.grown g)
  replace Hcj := Lib.hid (Hcj.out.grown g)
  replace Hr1 := Lib.hid (Hr1.out.grown g)
  replace Hr2 := Lib.hid (Hr2.out.grown g)
  replace Hr3 := Lib.hid (Hr3.out.grown g)
  replace Hr4 := Lib.hid (Hr4.out.grown g)
  replace Hr6 := Lib.hid (Hr6.out.grown g)
  replace HB8 := Lib.hid (And.intro (World.grownBy.cell g HB8.out.1 (by simp)) (World.grownBy.cell g HB8.out.2 (by simp)))
  replace HB9 := Lib.hid (And.intro (World.grownBy.cell g HB9.out.1 (by simp)) (World.grownBy.cell g HB9.out.2 (by simp)))
  replace HB10 := Lib.hid (And.intro (World.grownBy.cell g HB10.out.1 (by simp)) (World.grownBy.cell g HB10.out.2 (by simp)))
  replace HB11 := Lib.hid (And.intro (World.grownBy.cell g HB11.out.1 (by simp)) (World.grownBy.cell g HB11.out.2 (by simp)))
  replace HB13 := Lib.hid (And.intro (World.grownBy.cell g HB13.out.1 (by simp)) (World.grownBy.cell g HB13.out.2 (by simp)))
  replace HB15 := Lib.hid (And.intro (World.grownBy.cell g HB15.out.1 (by simp)) (World.grownBy.cell g HB15.out.2 (by simp)))
  replace HB17 := Lib.hid (And.intro (World.grownBy.cell g HB17.out.1 (by simp)) (World.grownBy.cell g HB17.out.2 (by simp)))
  replace HB19 := Lib.hid (And.intro (World.grownBy.cell g HB19.out.1 (by simp)) (World.grownBy.cell g HB19.out.2 (by simp)))
  replace HRB := Lib.hid (And.intro (World.grownBy.cell g HRB.out.1 (by simp)) (And.intro (World.grownBy.cell g HRB.out.2.1 (by simp)) (And.intro (World.grownBy.cell g HRB.out.2.2.1 (by simp)) (And.intro (World.grownBy.cell g HRB.out.2.2.2.1 (by simp)) (World.grownBy.cell g HRB.out.2.2.2.2 (by simp))))))
  replace HR := Lib.hid (HR.out.grown g)
  replace HT := Lib.hid (And.intro (World.grownBy.cell g HT.out.1 (by simp)) (And.intro (World.grownBy.cell g HT.out.2.1 (by simp)) (And.intro (World.grownBy.cell g HT.out.2.2.1 (by simp)) (And.intro (World.grownBy.cell g HT.out.2.2.2.1 (by simp)) (And.intro (World.grownBy.cell g HT.out.2.2.2.2.1 (by simp)) (World.grownBy.cell g HT.out.2.2.2.2.2 (by simp)))))))
  replace HG := Lib.hid (World.grownBy.trans HG.out g)
  clear g
  have Hr7 := Lib.hid hr
  clear hr
  have qB80 := HB8.out.1
  have qB81 := HB8.out.2
  have qB90 := HB9.out.1
  have qB91 := HB9.out.2
  have qB100 := HB10.out.1
  have qB101 := HB10.out.2
  have qB110 := HB11.out.1
  have qB111 := HB11.out.2
  have qB130 := HB13.out.1
  have qB131 := HB13.out.2
  have qB150 := HB15.out.1
  have qB151 := HB15.out.2
  have qB170 := HB17.out.1
  have qB171 := HB17.out.2
  have qB190 := HB19.out.1
  have qB191 := HB19.out.2
  have qr0 := HRB.out.1
  have qr1 := HRB.out.2.1
  have qr2 := HRB.out.2.2.1
  have qr3 := HRB.out.2.2.2.1
  have qr4 := HRB.out.2.2.2.2
  have t0 := HT.out.1
  have t1 := HT.out.2.1
  have t2 := HT.out.2.2.1
  have t3 := HT.out.2.2.2.1
  have t4 := HT.out.2.2.2.2.1
  have t5 := HT.out.2.2.2.2.2
  go_upto_region 14 with fail
  clear qB80 qB81 qB90 qB91 qB100 qB101 qB110 qB111 qB130 qB131 qB150 qB151 qB170 qB171 qB190 qB191 qr0 qr1 qr2 qr3 qr4 t0 t1 t2 t3 t4 t5
  have hbx := one_cells V20 (.int .i64 (k : Nat)) (.slice xr7 lL9 yr7) 27
  have g := World.grownBy_alloc V20 (.cells #[.int .i64 (k : Nat), .slice xr7 lL9 yr7] 27) none
  obtain ⟨V21, hV21⟩ : ∃ z, World.alloc V20 (.cells #[.int .i64 (k : Nat), .slice xr7 lL9 yr7] 27) = z := ⟨_, rfl⟩
  rw [hV21] at g hbx ⊢
  clear hV21
  obtain ⟨bB20, hb⟩ : ∃ b, V20.heap.size = b := ⟨_, rfl⟩
  rw [hb] at hbx ⊢
  clear hb
  replace Ha := Lib.hid (Ha.out.grown g)
  replace Hb := Lib.hid (Hb.out.grown g)
  replace Hc := Lib.hid (Hc.out.grown g)
  replace Hb2 := Lib.hid (Hb2.out.grown g)
  replace Hcj := Lib.hid (Hcj.out.grown g)
  replace Hr1 := Lib.hid (Hr1.out.grown g)
  replace Hr2 := Lib.hid (Hr2.out.grown g)
  replace Hr3 := Lib.hid (Hr3.out.grown g)
  replace Hr4 := Lib.hid (Hr4.out.grown g)
  replace Hr6 := Lib.hid (Hr6.out.grown g)
  replace Hr7 := Lib.hid (Hr7.out.grown g)
  replace HB8 := Lib.hid (And.intro (World.grownBy.cell g HB8.out.1 (by simp)) (World.grownBy.cell g HB8.out.2 (by simp)))
  replace HB9 := Lib.hid (And.intro (World.grownBy.cell g HB9.out.1 (by simp)) (World.grownBy.cell g HB9.out.2 (by simp)))
  replace HB10 := Lib.hid (And.intro (World.grownBy.cell g HB10.out.1 (by simp)) (World.grownBy.cell g HB10.out.2 (by simp)))
  replace HB11 := Lib.hid (And.intro (World.grownBy.cell g HB11.out.1 (by simp)) (World.grownBy.cell g HB11.out.2 (by simp)))
  replace HB13 := Lib.hid (And.intro (World.grownBy.cell g HB13.out.1 (by simp)) (World.grownBy.cell g HB13.out.2 (by simp)))
  replace HB15 := Lib.hid (And.intro (World.grownBy.cell g HB15.out.1 (by simp)) (World.grownBy.cell g HB15.out.2 (by simp)))
  replace HB17 := Lib.hid (And.intro (World.grownBy.cell g HB17.out.1 (by simp)) (World.grownBy.cell g HB17.out.2 (by simp)))
  replace HB19 := Lib.hid (And.intro (World.grownBy.cell g HB19.out.1 (by simp)) (World.grownBy.cell g HB19.out.2 (by simp)))
  replace HRB := Lib.hid (And.intro (World.grownBy.cell g HRB.out.1 (by simp)) (And.intro (World.grownBy.cell g HRB.out.2.1 (by simp)) (And.intro (World.grownBy.cell g HRB.out.2.2.1 (by simp)) (And.intro (World.grownBy.cell g HRB.out.2.2.2.1 (by simp)) (World.grownBy.cell g HRB.out.2.2.2.2 (by simp))))))
  replace HR := Lib.hid (HR.out.grown g)
  replace HT := Lib.hid (And.intro (World.grownBy.cell g HT.out.1 (by simp)) (And.intro (World.grownBy.cell g HT.out.2.1 (by simp)) (And.intro (World.grownBy.cell g HT.out.2.2.1 (by simp)) (And.intro (World.grownBy.cell g HT.out.2.2.2.1 (by simp)) (And.intro (World.grownBy.cell g HT.out.2.2.2.2.1 (by simp)) (World.grownBy.cell g HT.out.2.2.2.2.2 (by simp)))))))
  replace HG := Lib.hid (World.grownBy.trans HG.out g)
  clear g
  have HB20 := Lib.hid (And.intro hbx.2.1 hbx.2.2.1)
  clear hbx
  have qB80 := HB8.out.1
  have qB81 := HB8.out.2
  have qB90 := HB9.out.1
  have qB91 := HB9.out.2
  have qB100 := HB10.out.1
  have qB101 := HB10.out.2
  have qB110 := HB11.out.1
  have qB111 := HB11.out.2
  have qB130 := HB13.out.1
  have qB131 := HB13.out.2
  have qB150 := HB15.out.1
  have qB151 := HB15.out.2
  have qB170 := HB17.out.1
  have qB171 := HB17.out.2
  have qB190 := HB19.out.1
  have qB191 := HB19.out.2
  have qB200 := HB20.out.1
  have qB201 := HB20.out.2
  have qr0 := HRB.out.1
  have qr1 := HRB.out.2.1
  have qr2 := HRB.out.2.2.1
  have qr3 := HRB.out.2.2.2.1
  have qr4 := HRB.out.2.2.2.2
  have t0 := HT.out.1
  have t1 := HT.out.2.1
  have t2 := HT.out.2.2.1
  have t3 := HT.out.2.2.2.1
  have t4 := HT.out.2.2.2.2.1
  have t5 := HT.out.2.2.2.2.2
  go_wp2_with fail
  clear qB80 qB81 qB90 qB91 qB100 qB101 qB110 qB111 qB130 qB131 qB150 qB151 qB170 qB171 qB190 qB191 qB200 qB201 qr0 qr1 qr2 qr3 qr4 t0 t1 t2 t3 t4 t5
  refine (joinV (k := 2) (j := k) k (by omega) vL8.out vL1.out hn1 hn5 (by omega) (by omega) hk1 hk3 (by omega) (by omega) (by rw [← EL8.out, ← EL1.out]; exact EL10.out) ZL8.out ZL1.out ZL10.out _ _ _ _ _ Hr6.out Ha.out).mono ?_
  rintro e V22 ⟨xr8, yr8, rfl, hr, g⟩
  replace Ha := Lib.hid (Ha.out.grown g)
  replace Hb := Lib.hid (Hb.out.grown g)
  replace Hc := Lib.hid (Hc.out.grown g)
  replace Hb2 := Lib.hid (Hb2.out.grown g)
  replace Hcj := Lib.hid (Hcj.out.grown g)
  replace Hr1 := Lib.hid (Hr1.out.grown g)
  replace Hr2 := Lib.hid (Hr2.out.grown g)
  replace Hr3 := Lib.hid (Hr3.out.grown g)
  replace Hr4 := Lib.hid (Hr4.out.grown g)
  replace Hr6 := Lib.hid (Hr6.out.grown g)
  replace Hr7 := Lib.hid (Hr7.out.grown g)
  replace HB8 := Lib.hid (And.intro (World.grownBy.cell g HB8.out.1 (by simp)) (World.grownBy.cell g HB8.out.2 (by simp)))
  replace HB9 := Lib.hid (And.intro (World.grownBy.cell g HB9.out.1 (by simp)) (World.grownBy.cell g HB9.out.2 (by simp)))
  replace HB10 := Lib.hid (And.intro (World.grownBy.cell g HB10.out.1 (by simp)) (World.grownBy.cell g HB10.out.2 (by simp)))
  replace HB11 := Lib.hid (And.intro (World.grownBy.cell g HB11.out.1 (by simp)) (World.grownBy.cell g HB11.out.2 (by simp)))
  replace HB13 := Lib.hid (And.intro (World.grownBy.cell g HB13.out.1 (by simp)) (World.grownBy.cell g HB13.out.2 (by simp)))
  replace HB15 := Lib.hid (And.intro (World.grownBy.cell g HB15.out.1 (by simp)) (World.grownBy.cell g HB15.out.2 (by simp)))
  replace HB17 := Lib.hid (And.intro (World.grownBy.cell g HB17.out.1 (by simp)) (World.grownBy.cell g HB17.out.2 (by simp)))
  replace HB19 := Lib.hid (And.intro (World.grownBy.cell g HB19.out.1 (by simp)) (World.grownBy.cell g HB19.out.2 (by simp)))
  replace HB20 := Lib.hid (And.intro (World.grownBy.cell g HB20.out.1 (by simp)) (World.grownBy.cell g HB20.out.2 (by simp)))
  replace HRB := Lib.hid (And.intro (World.grownBy.cell g HRB.out.1 (by simp)) (And.intro (World.grownBy.cell g HRB.out.2.1 (by simp)) (And.intro (World.grownBy.cell g HRB.out.2.2.1 (by simp)) (And.intro (World.grownBy.cell g HRB.out.2.2.2.1 (by simp)) (World.grownBy.cell g HRB.out.2.2.2.2 (by simp))))))
  replace HR := Lib.hid (HR.out.grown g)
  replace HT := Lib.hid (And.intro (World.grownBy.cell g HT.out.1 (by simp)) (And.intro (World.grownBy.cell g HT.out.2.1 (by simp)) (And.intro (World.grownBy.cell g HT.out.2.2.1 (by simp)) (And.intro (World.grownBy.cell g HT.out.2.2.2.1 (by simp)) (And.intro (World.grownBy.cell g HT.out.2.2.2.2.1 (by simp)) (World.grownBy.cell g HT.out.2.2.2.2.2 (by simp)))))))
  replace HG := Lib.hid (World.grownBy.trans HG.out g)
  clear g
  have Hr8 := Lib.hid hr
  clear hr
  have qB80 := HB8.out.1
  have qB81 := HB8.out.2
  have qB90 := HB9.out.1
  have qB91 := HB9.out.2
  have qB100 := HB10.out.1
  have qB101 := HB10.out.2
  have qB110 := HB11.out.1
  have qB111 := HB11.out.2
  have qB130 := HB13.out.1
  have qB131 := HB13.out.2
  have qB150 := HB15.out.1
  have qB151 := HB15.out.2
  have qB170 := HB17.out.1
  have qB171 := HB17.out.2
  have qB190 := HB19.out.1
  have qB191 := HB19.out.2
  have qB200 := HB20.out.1
  have qB201 := HB20.out.2
  have qr0 := HRB.out.1
  have qr1 := HRB.out.2.1
  have qr2 := HRB.out.2.2.1
  have qr3 := HRB.out.2.2.2.1
  have qr4 := HRB.out.2.2.2.2
  have t0 := HT.out.1
  have t1 := HT.out.2.1
  have t2 := HT.out.2.2.1
  have t3 := HT.out.2.2.2.1
  have t4 := HT.out.2.2.2.2.1
  have t5 := HT.out.2.2.2.2.2
  go_upto_region 15 with fail
  clear qB80 qB81 qB90 qB91 qB100 qB101 qB110 qB111 qB130 qB131 qB150 qB151 qB170 qB171 qB190 qB191 qB200 qB201 qr0 qr1 qr2 qr3 qr4 t0 t1 t2 t3 t4 t5
  have hbx := one_cells V22 (.int .i64 (k : Nat)) (.slice xr8 lL10 yr8) 27
  have g := World.grownBy_alloc V22 (.cells #[.int .i64 (k : Nat), .slice xr8 lL10 yr8] 27) none
  obtain ⟨V23, hV23⟩ : ∃ z, World.alloc V22 (.cells #[.int .i64 (k : Nat), .slice xr8 lL10 yr8] 27) = z := ⟨_, rfl⟩
  rw [hV23] at g hbx ⊢
  clear hV23
  obtain ⟨bB22, hb⟩ : ∃ b, V22.heap.size = b := ⟨_, rfl⟩
  rw [hb] at hbx ⊢
  clear hb
  replace Ha := Lib.hid (Ha.out.grown g)
  replace Hb := Lib.hid (Hb.out.grown g)
  replace Hc := Lib.hid (Hc.out.grown g)
  replace Hb2 := Lib.hid (Hb2.out.grown g)
  replace Hcj := Lib.hid (Hcj.out.grown g)
  replace Hr1 := Lib.hid (Hr1.out.grown g)
  replace Hr2 := Lib.hid (Hr2.out.grown g)
  replace Hr3 := Lib.hid (Hr3.out.grown g)
  replace Hr4 := Lib.hid (Hr4.out.grown g)
  replace Hr6 := Lib.hid (Hr6.out.grown g)
  replace Hr7 := Lib.hid (Hr7.out.grown g)
  replace Hr8 := Lib.hid (Hr8.out.grown g)
  replace HB8 := Lib.hid (And.intro (World.grownBy.cell g HB8.out.1 (by simp)) (World.grownBy.cell g HB8.out.2 (by simp)))
  replace HB9 := Lib.hid (And.intro (World.grownBy.cell g HB9.out.1 (by simp)) (World.grownBy.cell g HB9.out.2 (by simp)))
  replace HB10 := Lib.hid (And.intro (World.grownBy.cell g HB10.out.1 (by simp)) (World.grownBy.cell g HB10.out.2 (by simp)))
  replace HB11 := Lib.hid (And.intro (World.grownBy.cell g HB11.out.1 (by simp)) (World.grownBy.cell g HB11.out.2 (by simp)))
  replace HB13 := Lib.hid (And.intro (World.grownBy.cell g HB13.out.1 (by simp)) (World.grownBy.cell g HB13.out.2 (by simp)))
  replace HB15 := Lib.hid (And.intro (World.grownBy.cell g HB15.out.1 (by simp)) (World.grownBy.cell g HB15.out.2 (by simp)))
  replace HB17 := Lib.hid (And.intro (World.grownBy.cell g HB17.out.1 (by simp)) (World.grownBy.cell g HB17.out.2 (by simp)))
  replace HB19 := Lib.hid (And.intro (World.grownBy.cell g HB19.out.1 (by simp)) (World.grownBy.cell g HB19.out.2 (by simp)))
  replace HB20 := Lib.hid (And.intro (World.grownBy.cell g HB20.out.1 (by simp)) (World.grownBy.cell g HB20.out.2 (by simp)))
  replace HRB := Lib.hid (And.intro (World.grownBy.cell g HRB.out.1 (by simp)) (And.intro (World.grownBy.cell g HRB.out.2.1 (by simp)) (And.intro (World.grownBy.cell g HRB.out.2.2.1 (by simp)) (And.intro (World.grownBy.cell g HRB.out.2.2.2.1 (by simp)) (World.grownBy.cell g HRB.out.2.2.2.2 (by simp))))))
  replace HR := Lib.hid (HR.out.grown g)
  replace HT := Lib.hid (And.intro (World.grownBy.cell g HT.out.1 (by simp)) (And.intro (World.grownBy.cell g HT.out.2.1 (by simp)) (And.intro (World.grownBy.cell g HT.out.2.2.1 (by simp)) (And.intro (World.grownBy.cell g HT.out.2.2.2.1 (by simp)) (And.intro (World.grownBy.cell g HT.out.2.2.2.2.1 (by simp)) (World.grownBy.cell g HT.out.2.2.2.2.2 (by simp)))))))
  replace HG := Lib.hid (World.grownBy.trans HG.out g)
  clear g
  have HB22 := Lib.hid (And.intro hbx.2.1 hbx.2.2.1)
  clear hbx
  have qB80 := HB8.out.1
  have qB81 := HB8.out.2
  have qB90 := HB9.out.1
  have qB91 := HB9.out.2
  have qB100 := HB10.out.1
  have qB101 := HB10.out.2
  have qB110 := HB11.out.1
  have qB111 := HB11.out.2
  have qB130 := HB13.out.1
  have qB131 := HB13.out.2
  have qB150 := HB15.out.1
  have qB151 := HB15.out.2
  have qB170 := HB17.out.1
  have qB171 := HB17.out.2
  have qB190 := HB19.out.1
  have qB191 := HB19.out.2
  have qB200 := HB20.out.1
  have qB201 := HB20.out.2
  have qB220 := HB22.out.1
  have qB221 := HB22.out.2
  have qr0 := HRB.out.1
  have qr1 := HRB.out.2.1
  have qr2 := HRB.out.2.2.1
  have qr3 := HRB.out.2.2.2.1
  have qr4 := HRB.out.2.2.2.2
  have t0 := HT.out.1
  have t1 := HT.out.2.1
  have t2 := HT.out.2.2.1
  have t3 := HT.out.2.2.2.1
  have t4 := HT.out.2.2.2.2.1
  have t5 := HT.out.2.2.2.2.2
  go_wp2_with fail
  clear qB80 qB81 qB90 qB91 qB100 qB101 qB110 qB111 qB130 qB131 qB150 qB151 qB170 qB171 qB190 qB191 qB200 qB201 qB220 qB221 qr0 qr1 qr2 qr3 qr4 t0 t1 t2 t3 t4 t5
  refine (equalV (k := k) (Q := true) (k : Nat) (k : Nat) vL9.out hn5 hk3 (eqQ _ Q9.out) ZL9.out ZL1.out _ _ _ _ _ Hr7.out Ha.out).mono ?_
  rintro e V24 ⟨rfl, g⟩
  replace Ha := Lib.hid (Ha.out.grown g)
  replace Hb := Lib.hid (Hb.out.grown g)
  replace Hc := Lib.hid (Hc.out.grown g)
  replace Hb2 := Lib.hid (Hb2.out.grown g)
  replace Hcj := Lib.hid (Hcj.out.grown g)
  replace Hr1 := Lib.hid (Hr1.out.grown g)
  replace Hr2 := Lib.hid (Hr2.out.grown g)
  replace Hr3 := Lib.hid (Hr3.out.grown g)
  replace Hr4 := Lib.hid (Hr4.out.grown g)
  replace Hr6 := Lib.hid (Hr6.out.grown g)
  replace Hr7 := Lib.hid (Hr7.out.grown g)
  replace Hr8 := Lib.hid (Hr8.out.grown g)
  replace HB8 := Lib.hid (And.intro (World.grownBy.cell g HB8.out.1 (by simp)) (World.grownBy.cell g HB8.out.2 (by simp)))
  replace HB9 := Lib.hid (And.intro (World.grownBy.cell g HB9.out.1 (by simp)) (World.grownBy.cell g HB9.out.2 (by simp)))
  replace HB10 := Lib.hid (And.intro (World.grownBy.cell g HB10.out.1 (by simp)) (World.grownBy.cell g HB10.out.2 (by simp)))
  replace HB11 := Lib.hid (And.intro (World.grownBy.cell g HB11.out.1 (by simp)) (World.grownBy.cell g HB11.out.2 (by simp)))
  replace HB13 := Lib.hid (And.intro (World.grownBy.cell g HB13.out.1 (by simp)) (World.grownBy.cell g HB13.out.2 (by simp)))
  replace HB15 := Lib.hid (And.intro (World.grownBy.cell g HB15.out.1 (by simp)) (World.grownBy.cell g HB15.out.2 (by simp)))
  replace HB17 := Lib.hid (And.intro (World.grownBy.cell g HB17.out.1 (by simp)) (World.grownBy.cell g HB17.out.2 (by simp)))
  replace HB19 := Lib.hid (And.intro (World.grownBy.cell g HB19.out.1 (by simp)) (World.grownBy.cell g HB19.out.2 (by simp)))
  replace HB20 := Lib.hid (And.intro (World.grownBy.cell g HB20.out.1 (by simp)) (World.grownBy.cell g HB20.out.2 (by simp)))
  replace HB22 := Lib.hid (And.intro (World.grownBy.cell g HB22.out.1 (by simp)) (World.grownBy.cell g HB22.out.2 (by simp)))
  replace HRB := Lib.hid (And.intro (World.grownBy.cell g HRB.out.1 (by simp)) (And.intro (World.grownBy.cell g HRB.out.2.1 (by simp)) (And.intro (World.grownBy.cell g HRB.out.2.2.1 (by simp)) (And.intro (World.grownBy.cell g HRB.out.2.2.2.1 (by simp)) (World.grownBy.cell g HRB.out.2.2.2.2 (by simp))))))
  replace HR := Lib.hid (HR.out.grown g)
  replace HT := Lib.hid (And.intro (World.grownBy.cell g HT.out.1 (by simp)) (And.intro (World.grownBy.cell g HT.out.2.1 (by simp)) (And.intro (World.grownBy.cell g HT.out.2.2.1 (by simp)) (And.intro (World.grownBy.cell g HT.out.2.2.2.1 (by simp)) (And.intro (World.grownBy.cell g HT.out.2.2.2.2.1 (by simp)) (World.grownBy.cell g HT.out.2.2.2.2.2 (by simp)))))))
  replace HG := Lib.hid (World.grownBy.trans HG.out g)
  clear g
  have qB80 := HB8.out.1
  have qB81 := HB8.out.2
  have qB90 := HB9.out.1
  have qB91 := HB9.out.2
  have qB100 := HB10.out.1
  have qB101 := HB10.out.2
  have qB110 := HB11.out.1
  have qB111 := HB11.out.2
  have qB130 := HB13.out.1
  have qB131 := HB13.out.2
  have qB150 := HB15.out.1
  have qB151 := HB15.out.2
  have qB170 := HB17.out.1
  have qB171 := HB17.out.2
  have qB190 := HB19.out.1
  have qB191 := HB19.out.2
  have qB200 := HB20.out.1
  have qB201 := HB20.out.2
  have qB220 := HB22.out.1
  have qB221 := HB22.out.2
  have qr0 := HRB.out.1
  have qr1 := HRB.out.2.1
  have qr2 := HRB.out.2.2.1
  have qr3 := HRB.out.2.2.2.1
  have qr4 := HRB.out.2.2.2.2
  have t0 := HT.out.1
  have t1 := HT.out.2.1
  have t2 := HT.out.2.2.1
  have t3 := HT.out.2.2.2.1
  have t4 := HT.out.2.2.2.2.1
  have t5 := HT.out.2.2.2.2.2
  go_wp2_with fail
  clear qB80 qB81 qB90 qB91 qB100 qB101 qB110 qB111 qB130 qB131 qB150 qB151 qB170 qB171 qB190 qB191 qB200 qB201 qB220 qB221 qr0 qr1 qr2 qr3 qr4 t0 t1 t2 t3 t4 t5
  refine (equalV (k := k) (Q := true) (k : Nat) (k : Nat) vL10.out hn5 hk3 (eqQ _ Q10.out) ZL10.out ZL1.out _ _ _ _ _ Hr8.out Ha.out).mono ?_
  rintro e V25 ⟨rfl, g⟩
  replace Ha := Lib.hid (Ha.out.grown g)
  replace Hb := Lib.hid (Hb.out.grown g)
  replace Hc := Lib.hid (Hc.out.grown g)
  replace Hb2 := Lib.hid (Hb2.out.grown g)
  replace Hcj := Lib.hid (Hcj.out.grown g)
  replace Hr1 := Lib.hid (Hr1.out.grown g)
  replace Hr2 := Lib.hid (Hr2.out.grown g)
  replace Hr3 := Lib.hid (Hr3.out.grown g)
  replace Hr4 := Lib.hid (Hr4.out.grown g)
  replace Hr6 := Lib.hid (Hr6.out.grown g)
  replace Hr7 := Lib.hid (Hr7.out.grown g)
  replace Hr8 := Lib.hid (Hr8.out.grown g)
  replace HB8 := Lib.hid (And.intro (World.grownBy.cell g HB8.out.1 (by simp)) (World.grownBy.cell g HB8.out.2 (by simp)))
  replace HB9 := Lib.hid (And.intro (World.grownBy.cell g HB9.out.1 (by simp)) (World.grownBy.cell g HB9.out.2 (by simp)))
  replace HB10 := Lib.hid (And.intro (World.grownBy.cell g HB10.out.1 (by simp)) (World.grownBy.cell g HB10.out.2 (by simp)))
  replace HB11 := Lib.hid (And.intro (World.grownBy.cell g HB11.out.1 (by simp)) (World.grownBy.cell g HB11.out.2 (by simp)))
  replace HB13 := Lib.hid (And.intro (World.grownBy.cell g HB13.out.1 (by simp)) (World.grownBy.cell g HB13.out.2 (by simp)))
  replace HB15 := Lib.hid (And.intro (World.grownBy.cell g HB15.out.1 (by simp)) (World.grownBy.cell g HB15.out.2 (by simp)))
  replace HB17 := Lib.hid (And.intro (World.grownBy.cell g HB17.out.1 (by simp)) (World.grownBy.cell g HB17.out.2 (by simp)))
  replace HB19 := Lib.hid (And.intro (World.grownBy.cell g HB19.out.1 (by simp)) (World.grownBy.cell g HB19.out.2 (by simp)))
  replace HB20 := Lib.hid (And.intro (World.grownBy.cell g HB20.out.1 (by simp)) (World.grownBy.cell g HB20.out.2 (by simp)))
  replace HB22 := Lib.hid (And.intro (World.grownBy.cell g HB22.out.1 (by simp)) (World.grownBy.cell g HB22.out.2 (by simp)))
  replace HRB := Lib.hid (And.intro (World.grownBy.cell g HRB.out.1 (by simp)) (And.intro (World.grownBy.cell g HRB.out.2.1 (by simp)) (And.intro (World.grownBy.cell g HRB.out.2.2.1 (by simp)) (And.intro (World.grownBy.cell g HRB.out.2.2.2.1 (by simp)) (World.grownBy.cell g HRB.out.2.2.2.2 (by simp))))))
  replace HR := Lib.hid (HR.out.grown g)
  replace HT := Lib.hid (And.intro (World.grownBy.cell g HT.out.1 (by simp)) (And.intro (World.grownBy.cell g HT.out.2.1 (by simp)) (And.intro (World.grownBy.cell g HT.out.2.2.1 (by simp)) (And.intro (World.grownBy.cell g HT.out.2.2.2.1 (by simp)) (And.intro (World.grownBy.cell g HT.out.2.2.2.2.1 (by simp)) (World.grownBy.cell g HT.out.2.2.2.2.2 (by simp)))))))
  replace HG := Lib.hid (World.grownBy.trans HG.out g)
  clear g
  have qB80 := HB8.out.1
  have qB81 := HB8.out.2
  have qB90 := HB9.out.1
  have qB91 := HB9.out.2
  have qB100 := HB10.out.1
  have qB101 := HB10.out.2
  have qB110 := HB11.out.1
  have qB111 := HB11.out.2
  have qB130 := HB13.out.1
  have qB131 := HB13.out.2
  have qB150 := HB15.out.1
  have qB151 := HB15.out.2
  have qB170 := HB17.out.1
  have qB171 := HB17.out.2
  have qB190 := HB19.out.1
  have qB191 := HB19.out.2
  have qB200 := HB20.out.1
  have qB201 := HB20.out.2
  have qB220 := HB22.out.1
  have qB221 := HB22.out.2
  have qr0 := HRB.out.1
  have qr1 := HRB.out.2.1
  have qr2 := HRB.out.2.2.1
  have qr3 := HRB.out.2.2.2.1
  have qr4 := HRB.out.2.2.2.2
  have t0 := HT.out.1
  have t1 := HT.out.2.1
  have t2 := HT.out.2.2.1
  have t3 := HT.out.2.2.2.1
  have t4 := HT.out.2.2.2.2.1
  have t5 := HT.out.2.2.2.2.2
  go_upto_region 17 with fail
  clear qB80 qB81 qB90 qB91 qB100 qB101 qB110 qB111 qB130 qB131 qB150 qB151 qB170 qB171 qB190 qB191 qB200 qB201 qB220 qB221 qr0 qr1 qr2 qr3 qr4 t0 t1 t2 t3 t4 t5
  have qB80 := HB8.out.1
  have qB81 := HB8.out.2
  have qB90 := HB9.out.1
  have qB91 := HB9.out.2
  have qB100 := HB10.out.1
  have qB101 := HB10.out.2
  have qB110 := HB11.out.1
  have qB111 := HB11.out.2
  have qB130 := HB13.out.1
  have qB131 := HB13.out.2
  have qB150 := HB15.out.1
  have qB151 := HB15.out.2
  have qB170 := HB17.out.1
  have qB171 := HB17.out.2
  have qB190 := HB19.out.1
  have qB191 := HB19.out.2
  have qB200 := HB20.out.1
  have qB201 := HB20.out.2
  have qB220 := HB22.out.1
  have qB221 := HB22.out.2
  have qr0 := HRB.out.1
  have qr1 := HRB.out.2.1
  have qr2 := HRB.out.2.2.1
  have qr3 := HRB.out.2.2.2.1
  have qr4 := HRB.out.2.2.2.2
  have t0 := HT.out.1
  have t1 := HT.out.2.1
  have t2 := HT.out.2.2.1
  have t3 := HT.out.2.2.2.1
  have t4 := HT.out.2.2.2.2.1
  have t5 := HT.out.2.2.2.2.2
  go_upto_region 18 with fail
  clear qB80 qB81 qB90 qB91 qB100 qB101 qB110 qB111 qB130 qB131 qB150 qB151 qB170 qB171 qB190 qB191 qB200 qB201 qB220 qB221 qr0 qr1 qr2 qr3 qr4 t0 t1 t2 t3 t4 t5
  have hbx := one_cells V25 (.int .i64 (k : Nat)) (.slice xb lL2 yb) 27
  have g := World.grownBy_alloc V25 (.cells #[.int .i64 (k : Nat), .slice xb lL2 yb] 27) none
  obtain ⟨V26, hV26⟩ : ∃ z, World.alloc V25 (.cells #[.int .i64 (k : Nat), .slice xb lL2 yb] 27) = z := ⟨_, rfl⟩
  rw [hV26] at g hbx ⊢
  clear hV26
  obtain ⟨bB24, hb⟩ : ∃ b, V25.heap.size = b := ⟨_, rfl⟩
  rw [hb] at hbx ⊢
  clear hb
  replace Ha := Lib.hid (Ha.out.grown g)
  replace Hb := Lib.hid (Hb.out.grown g)
  replace Hc := Lib.hid (Hc.out.grown g)
  replace Hb2 := Lib.hid (Hb2.out.grown g)
  replace Hcj := Lib.hid (Hcj.out.grown g)
  replace Hr1 := Lib.hid (Hr1.out.grown g)
  replace Hr2 := Lib.hid (Hr2.out.grown g)
  replace Hr3 := Lib.hid (Hr3.out.grown g)
  replace Hr4 := Lib.hid (Hr4.out.grown g)
  replace Hr6 := Lib.hid (Hr6.out.grown g)
  replace Hr7 := Lib.hid (Hr7.out.grown g)
  replace Hr8 := Lib.hid (Hr8.out.grown g)
  replace HB8 := Lib.hid (And.intro (World.grownBy.cell g HB8.out.1 (by simp)) (World.grownBy.cell g HB8.out.2 (by simp)))
  replace HB9 := Lib.hid (And.intro (World.grownBy.cell g HB9.out.1 (by simp)) (World.grownBy.cell g HB9.out.2 (by simp)))
  replace HB10 := Lib.hid (And.intro (World.grownBy.cell g HB10.out.1 (by simp)) (World.grownBy.cell g HB10.out.2 (by simp)))
  replace HB11 := Lib.hid (And.intro (World.grownBy.cell g HB11.out.1 (by simp)) (World.grownBy.cell g HB11.out.2 (by simp)))
  replace HB13 := Lib.hid (And.intro (World.grownBy.cell g HB13.out.1 (by simp)) (World.grownBy.cell g HB13.out.2 (by simp)))
  replace HB15 := Lib.hid (And.intro (World.grownBy.cell g HB15.out.1 (by simp)) (World.grownBy.cell g HB15.out.2 (by simp)))
  replace HB17 := Lib.hid (And.intro (World.grownBy.cell g HB17.out.1 (by simp)) (World.grownBy.cell g HB17.out.2 (by simp)))
  replace HB19 := Lib.hid (And.intro (World.grownBy.cell g HB19.out.1 (by simp)) (World.grownBy.cell g HB19.out.2 (by simp)))
  replace HB20 := Lib.hid (And.intro (World.grownBy.cell g HB20.out.1 (by simp)) (World.grownBy.cell g HB20.out.2 (by simp)))
  replace HB22 := Lib.hid (And.intro (World.grownBy.cell g HB22.out.1 (by simp)) (World.grownBy.cell g HB22.out.2 (by simp)))
  replace HRB := Lib.hid (And.intro (World.grownBy.cell g HRB.out.1 (by simp)) (And.intro (World.grownBy.cell g HRB.out.2.1 (by simp)) (And.intro (World.grownBy.cell g HRB.out.2.2.1 (by simp)) (And.intro (World.grownBy.cell g HRB.out.2.2.2.1 (by simp)) (World.grownBy.cell g HRB.out.2.2.2.2 (by simp))))))
  replace HR := Lib.hid (HR.out.grown g)
  replace HT := Lib.hid (And.intro (World.grownBy.cell g HT.out.1 (by simp)) (And.intro (World.grownBy.cell g HT.out.2.1 (by simp)) (And.intro (World.grownBy.cell g HT.out.2.2.1 (by simp)) (And.intro (World.grownBy.cell g HT.out.2.2.2.1 (by simp)) (And.intro (World.grownBy.cell g HT.out.2.2.2.2.1 (by simp)) (World.grownBy.cell g HT.out.2.2.2.2.2 (by simp)))))))
  replace HG := Lib.hid (World.grownBy.trans HG.out g)
  clear g
  have HB24 := Lib.hid (And.intro hbx.2.1 hbx.2.2.1)
  clear hbx
  clear HT
  go_cut [25, 26] (fun s0 s1 wx => ∃ p x y, s0 = .pointer (some ⟨p, 0, none⟩) ∧ s1 = .int .i64 0 ∧ (wx.cell? ⟨p, 0, none⟩ = some (.int .i64 ((k : Nat) : Int)) ∧ wx.cell? ⟨p, 1, none⟩ = some (.slice x lL12 y)) ∧ IntsW wx x y L12 ∧ V26.grownBy wx none)
  case first =>
    as_aux_lemma =>
      have HS := Lib.hid (fun (Wh : World) (hWh : V26.grownBy Wh none) => (⟨hWh, hWh.cell HB8.out.1 (by simp), hWh.cell HB8.out.2 (by simp), hWh.cell HB9.out.1 (by simp), hWh.cell HB9.out.2 (by simp), hWh.cell HB10.out.1 (by simp), hWh.cell HB10.out.2 (by simp), hWh.cell HB11.out.1 (by simp), hWh.cell HB11.out.2 (by simp), hWh.cell HB13.out.1 (by simp), hWh.cell HB13.out.2 (by simp), hWh.cell HB15.out.1 (by simp), hWh.cell HB15.out.2 (by simp), hWh.cell HB17.out.1 (by simp), hWh.cell HB17.out.2 (by simp), hWh.cell HB19.out.1 (by simp), hWh.cell HB19.out.2 (by simp), hWh.cell HB20.out.1 (by simp), hWh.cell HB20.out.2 (by simp), hWh.cell HB22.out.1 (by simp), hWh.cell HB22.out.2 (by simp), hWh.cell HB24.out.1 (by simp), hWh.cell HB24.out.2 (by simp)⟩ : (fun Wh : World => V26.grownBy Wh none ∧ Wh.cell? ⟨bB8, 0, none⟩ = some (.int .i64 (k : Nat)) ∧ Wh.cell? ⟨bB8, 1, none⟩ = some (.slice xa lL1 ya) ∧ Wh.cell? ⟨bB9, 0, none⟩ = some (.int .i64 2) ∧ Wh.cell? ⟨bB9, 1, none⟩ = some (.slice xb2 lL4 yb2) ∧ Wh.cell? ⟨bB10, 0, none⟩ = some (.int .i64 (j : Nat)) ∧ Wh.cell? ⟨bB10, 1, none⟩ = some (.slice xcj lL5 ycj) ∧ Wh.cell? ⟨bB11, 0, none⟩ = some (.int .i64 (k : Nat)) ∧ Wh.cell? ⟨bB11, 1, none⟩ = some (.slice xr1 lL6 yr1) ∧ Wh.cell? ⟨bB13, 0, none⟩ = some (.int .i64 (j : Nat)) ∧ Wh.cell? ⟨bB13, 1, none⟩ = some (.slice xr2 lL7 yr2) ∧ Wh.cell? ⟨bB15, 0, none⟩ = some (.int .i64 (qq : Nat)) ∧ Wh.cell? ⟨bB15, 1, none⟩ = some (.slice xr3 lLQ yr3) ∧ Wh.cell? ⟨bB17, 0, none⟩ = some (.int .i64 (qq : Nat)) ∧ Wh.cell? ⟨bB17, 1, none⟩ = some (.slice xr4 lLQ yr4) ∧ Wh.cell? ⟨bB19, 0, none⟩ = some (.int .i64 2) ∧ Wh.cell? ⟨bB19, 1, none⟩ = some (.slice xr6 lL8 yr6) ∧ Wh.cell? ⟨bB20, 0, none⟩ = some (.int .i64 (k : Nat)) ∧ Wh.cell? ⟨bB20, 1, none⟩ = some (.slice xr7 lL9 yr7) ∧ Wh.cell? ⟨bB22, 0, none⟩ = some (.int .i64 (k : Nat)) ∧ Wh.cell? ⟨bB22, 1, none⟩ = some (.slice xr8 lL10 yr8) ∧ Wh.cell? ⟨bB24, 0, none⟩ = some (.int .i64 (k : Nat)) ∧ Wh.cell? ⟨bB24, 1, none⟩ = some (.slice xb lL2 yb)) Wh))
      have hdr : V26.grownBy V26.drew none := ⟨rfl, rfl, rfl, Nat.le_refl _, fun _ _ _ => rfl⟩
      refine wp_region_held_drew (S := (fun Wh : World => V26.grownBy Wh none ∧ Wh.cell? ⟨bB8, 0, none⟩ = some (.int .i64 (k : Nat)) ∧ Wh.cell? ⟨bB8, 1, none⟩ = some (.slice xa lL1 ya) ∧ Wh.cell? ⟨bB9, 0, none⟩ = some (.int .i64 2) ∧ Wh.cell? ⟨bB9, 1, none⟩ = some (.slice xb2 lL4 yb2) ∧ Wh.cell? ⟨bB10, 0, none⟩ = some (.int .i64 (j : Nat)) ∧ Wh.cell? ⟨bB10, 1, none⟩ = some (.slice xcj lL5 ycj) ∧ Wh.cell? ⟨bB11, 0, none⟩ = some (.int .i64 (k : Nat)) ∧ Wh.cell? ⟨bB11, 1, none⟩ = some (.slice xr1 lL6 yr1) ∧ Wh.cell? ⟨bB13, 0, none⟩ = some (.int .i64 (j : Nat)) ∧ Wh.cell? ⟨bB13, 1, none⟩ = some (.slice xr2 lL7 yr2) ∧ Wh.cell? ⟨bB15, 0, none⟩ = some (.int .i64 (qq : Nat)) ∧ Wh.cell? ⟨bB15, 1, none⟩ = some (.slice xr3 lLQ yr3) ∧ Wh.cell? ⟨bB17, 0, none⟩ = some (.int .i64 (qq : Nat)) ∧ Wh.cell? ⟨bB17, 1, none⟩ = some (.slice xr4 lLQ yr4) ∧ Wh.cell? ⟨bB19, 0, none⟩ = some (.int .i64 2) ∧ Wh.cell? ⟨bB19, 1, none⟩ = some (.slice xr6 lL8 yr6) ∧ Wh.cell? ⟨bB20, 0, none⟩ = some (.int .i64 (k : Nat)) ∧ Wh.cell? ⟨bB20, 1, none⟩ = some (.slice xr7 lL9 yr7) ∧ Wh.cell? ⟨bB22, 0, none⟩ = some (.int .i64 (k : Nat)) ∧ Wh.cell? ⟨bB22, 1, none⟩ = some (.slice xr8 lL10 yr8) ∧ Wh.cell? ⟨bB24, 0, none⟩ = some (.int .i64 (k : Nat)) ∧ Wh.cell? ⟨bB24, 1, none⟩ = some (.slice xb lL2 yb))) (by kernel_rfl) (HS.out _ hdr) (fun hHeld => ?_)
      refine wpAnyH_take (i := 0) (oi := { dst := some 134, op := Op.move (Operand.tmp 6), type := 3, pos := "law.go:135", after := #[], guard := none }) (v := ?_) rfl (by kernel_rfl) (by kernel_rfl) (by kernel_rfl) (fun _ _ _ h => h) (Or.inl ⟨by rfl, ?_⟩) (by assumption) ?_
      rotate_left 1
      · (intro W hSW; (try dsimp only at hSW); first | (go_simp; done) | (go_simp; with_reducible rfl))
      try simp only [Act.put, List.setIfInBounds_toArray, List.set_cons_zero, List.set_cons_succ]
      refine wpAnyH_take (i := 1) (oi := { dst := some 135, op := Op.load 27 (Operand.tmp 8), type := 27, pos := "law.go:135", after := #[], guard := none }) (v := ?_) rfl (by kernel_rfl) (by kernel_rfl) (by kernel_rfl) (fun _ _ _ h => h) (Or.inl ⟨by rfl, ?_⟩) (by assumption) ?_
      rotate_left 1
      · (intro W hSW; (try dsimp only at hSW); first | (go_simp; done) | (go_simp; with_reducible rfl))
      try simp only [Act.put, List.setIfInBounds_toArray, List.set_cons_zero, List.set_cons_succ]
      refine wpAnyH_take (i := 2) (oi := { dst := some 136, op := Op.load 27 (Operand.tmp 24), type := 27, pos := "law.go:135", after := #[], guard := none }) (v := ?_) rfl (by kernel_rfl) (by kernel_rfl) (by kernel_rfl) (fun _ _ _ h => h) (Or.inl ⟨by rfl, ?_⟩) (by assumption) ?_
      rotate_left 1
      · (intro W hSW; (try dsimp only at hSW); first | (go_simp; done) | (go_simp; with_reducible rfl))
      try simp only [Act.put, List.setIfInBounds_toArray, List.set_cons_zero, List.set_cons_succ]
      refine wpAnyH_take (i := 4) (oi := { dst := some 138, op := Op.load 27 (Operand.tmp 9), type := 27, pos := "law.go:135", after := #[], guard := none }) (v := ?_) rfl (by kernel_rfl) (by kernel_rfl) (by kernel_rfl) (fun _ _ _ h => h) (Or.inl ⟨by rfl, ?_⟩) (by assumption) ?_
      rotate_left 1
      · (intro W hSW; (try dsimp only at hSW); first | (go_simp; done) | (go_simp; with_reducible rfl))
      try simp only [Act.put, List.setIfInBounds_toArray, List.set_cons_zero, List.set_cons_succ]
      refine wpAnyH_ready (rs := [3, 9]) (by kernel_rfl) (by simp) ?_
      refine (AllReadyH.cons (o := { dst := some 137, op := Op.call { callee := Callee.value (Operand.func 27), args := #[Operand.tmp 135, Operand.tmp 136], argTypes := #[27, 27] }, type := 27, pos := "law.go:135", after := #[{ on := 1, ground := Ground.data }, { on := 2, ground := Ground.data }], guard := none }) rfl (fun K hK => ?_) (AllReadyH.cons (o := { dst := some 25, op := Op.alloc 27, type := 0, pos := "law.go:135", after := #[], guard := none }) rfl (fun K hK => ?_) AllReadyH.nil))
      · rw [if_pos (by rfl)]
        go_simp
        go_at_call 27
        refine (unionV (k : Nat) (k : Nat) vL1.out vL2.out hn5 hk3 (by rw [← EL1.out, ← EL2.out]; exact EL11.out) ZL1.out ZL2.out ZL11.out _ _ _ _ _ (Ha.out.grown hdr) (Hb.out.grown hdr)).mono ?_
        rintro e wc3 ⟨xr11, yr11, rfl, hrr11, gc3⟩
        have hgr3 := World.grownBy.trans hdr gc3
        go_wp2_with fail
        refine hK.out _ _ (HS.out _ hgr3) (fun hHeld => ?_)
        clear hK K
        try simp only [Act.put, List.setIfInBounds_toArray, List.set_cons_zero, List.set_cons_succ]
        refine wpAnyH_ready (rs := [5, 9]) (by kernel_rfl) (by simp) ?_
        refine (AllReadyH.cons (o := { dst := some 139, op := Op.call { callee := Callee.value (Operand.func 15), args := #[Operand.tmp 134, Operand.tmp 137, Operand.tmp 138], argTypes := #[3, 27, 27] }, type := 34, pos := "law.go:135", after := #[{ on := 0, ground := Ground.data }, { on := 3, ground := Ground.data }, { on := 4, ground := Ground.data }, { on := 3, ground := Ground.chain }], guard := none }) rfl (fun K hK => ?_) (AllReadyH.cons (o := { dst := some 25, op := Op.alloc 27, type := 0, pos := "law.go:135", after := #[], guard := none }) rfl (fun K hK => ?_) AllReadyH.nil))
        · rw [if_pos (by rfl)]
          go_simp
          go_at_call 15
          refine (joinS (k := k) (j := 2) k (by omega) vL11.out vL4.out hn1 hn5 hk1 hk3 (by omega) (by omega) (by omega) (by omega) (by rw [← EL11.out, ← EL4.out]; exact EL12.out) ZL11.out ZL4.out ZL12.out _ _ _ _ _ hrr11 (Hb2.out.grown hgr3)).mono ?_
          rintro e wc5 ⟨xr12, yr12, rfl, hrr12, gc5⟩
          have hgr5 := World.grownBy.trans hgr3 gc5
          go_wp2_with fail
          refine hK.out _ _ (HS.out _ hgr5) (fun hHeld => ?_)
          clear hK K
          try simp only [Act.put, List.setIfInBounds_toArray, List.set_cons_zero, List.set_cons_succ]
          refine wpAnyH_take (i := 6) (oi := { dst := some 133, op := Op.move (Operand.tmp 139), type := 34, pos := "law.go:135", after := #[{ on := 5, ground := Ground.data }], guard := none }) (v := ?_) rfl (by kernel_rfl) (by kernel_rfl) (by kernel_rfl) (fun _ _ _ h => h) (Or.inl ⟨by rfl, ?_⟩) (by assumption) ?_
          rotate_left 1
          · (intro W hSW; (try dsimp only at hSW); first | (go_simp; done) | (go_simp; with_reducible rfl))
          try simp only [Act.put, List.setIfInBounds_toArray, List.set_cons_zero, List.set_cons_succ]
          refine wpAnyH_take (i := 7) (oi := { dst := some 140, op := Op.extract (Operand.tmp 133) 0, type := 27, pos := "law.go:135", after := #[{ on := 6, ground := Ground.data }], guard := none }) (v := ?_) rfl (by kernel_rfl) (by kernel_rfl) (by kernel_rfl) (fun _ _ _ h => h) (Or.inl ⟨by rfl, ?_⟩) (by assumption) ?_
          rotate_left 1
          · (intro W hSW; (try dsimp only at hSW); first | (go_simp; done) | (go_simp; with_reducible rfl))
          try simp only [Act.put, List.setIfInBounds_toArray, List.set_cons_zero, List.set_cons_succ]
          refine wpAnyH_take (i := 8) (oi := { dst := some 141, op := Op.extract (Operand.tmp 133) 1, type := 33, pos := "law.go:135", after := #[{ on := 6, ground := Ground.data }, { on := 10, ground := Ground.gcOnly Departure.lateStores }], guard := none }) (v := ?_) rfl (by kernel_rfl) (by kernel_rfl) (by kernel_rfl) (fun _ _ _ h => h) (Or.inl ⟨by rfl, ?_⟩) (by assumption) ?_
          rotate_left 1
          · (intro W hSW; (try dsimp only at hSW); first | (go_simp; done) | (go_simp; with_reducible rfl))
          try simp only [Act.put, List.setIfInBounds_toArray, List.set_cons_zero, List.set_cons_succ]
          refine wpAnyH_ready (rs := [9]) (by kernel_rfl) (by simp) ?_
          refine (AllReadyH.cons (o := { dst := some 25, op := Op.alloc 27, type := 0, pos := "law.go:135", after := #[], guard := none }) rfl (fun K hK => ?_) AllReadyH.nil)
          rw [if_pos (by rfl)]
          go_simp
          have hgaA : V26.grownBy (World.alloc wc5 (.cells #[.int .i64 0, .slice none 0 0] 27)) none := World.grownBy.trans hgr5 (World.grownBy_alloc wc5 (.cells #[.int .i64 0, .slice none 0 0] 27) none)
          have halA : wc5.grownBy (World.alloc wc5 (.cells #[.int .i64 0, .slice none 0 0] 27)) none := World.grownBy_alloc wc5 (.cells #[.int .i64 0, .slice none 0 0] 27) none
          have hz := Two.new wc5 (.int .i64 0) (.slice none 0 0) 27
          have hgeq : V26.heap.size ≤ wc5.heap.size := World.grownBy.size hgr5
          have hgeA : ∀ p, wc5.heap.size = p → V26.heap.size ≤ p := fun p e => by rw [← e]; exact hgeq
          clear hgeq
          obtain ⟨WA, hWA⟩ : ∃ z, World.alloc wc5 (.cells #[.int .i64 0, .slice none 0 0] 27) = z := ⟨_, rfl⟩
          rw [hWA] at hgaA halA hz ⊢
          clear hWA
          obtain ⟨pA, hpA⟩ : ∃ p, wc5.heap.size = p := ⟨_, rfl⟩
          replace hgeA := hgeA pA hpA
          rw [hpA] at hz ⊢
          have hpHi := Nat.le_of_eq hpA
          clear hpA
          refine hK.out _ _ (HS.out _ hgaA) (fun hHeld => ?_)
          clear hK K
          try simp only [Act.put, List.setIfInBounds_toArray, List.set_cons_zero, List.set_cons_succ]
          refine wpAnyH_ready (rs := [10]) (by kernel_rfl) (by simp) ?_
          refine (AllReadyH.cons (o := { dst := none, op := Op.store 27 (Operand.tmp 25) (Operand.tmp 140), type := 0, pos := "law.go:135", after := #[{ on := 9, ground := Ground.data }, { on := 7, ground := Ground.data }, { on := 5, ground := Ground.chain }, { on := 0, ground := Ground.phase }, { on := 1, ground := Ground.phase }, { on := 2, ground := Ground.phase }, { on := 3, ground := Ground.phase }, { on := 4, ground := Ground.phase }, { on := 5, ground := Ground.phase }, { on := 6, ground := Ground.phase }, { on := 7, ground := Ground.phase }, { on := 8, ground := Ground.textOnly Departure.lateStores }, { on := 9, ground := Ground.phase }], guard := none }) rfl (fun K hK => ?_) AllReadyH.nil)
          rw [if_pos (by rfl)]
          have hzz := hz
          obtain ⟨⟨x0, x1⟩, xf⟩ := hzz
          have xf0 := xf 0
          have xf1 := xf 1
          clear xf
          go_simp
          clear x0 x1 xf0 xf1
          have hst := two_set hz (.int .i64 ((k : Nat) : Int)) (.slice xr12 lL12 yr12)
          have hgaS := grown_own hgaA hst.2 (fun k hk => by cases hk; exact hgeA)
          have hrS := ((hrr12.grown halA).off hst.2 (fun x e => by cases e; exact .inr hpHi)).here
          replace hz := hst.1
          clear hst
          obtain ⟨WS, hWS⟩ : ∃ z, (World.setCell (World.setCell WA ⟨pA, 0, none⟩ (.int .i64 ((k : Nat) : Int))) ⟨pA, 1, none⟩ (.slice xr12 lL12 yr12)) = z := ⟨_, rfl⟩
          rw [hWS] at hgaS hz hrS ⊢
          clear hWS
          refine hK.out _ _ (HS.out _ hgaS) (fun hHeld => ?_)
          clear hK K
          try simp only [Act.put, List.setIfInBounds_toArray, List.set_cons_zero, List.set_cons_succ]
          refine wpAnyH_take (i := 11) (oi := { dst := some 26, op := Op.assign (Operand.tmp 141), type := 33, pos := "law.go:135", after := #[{ on := 8, ground := Ground.data }, { on := 10, ground := Ground.chain }, { on := 0, ground := Ground.phase }, { on := 1, ground := Ground.phase }, { on := 2, ground := Ground.phase }, { on := 3, ground := Ground.phase }, { on := 4, ground := Ground.phase }, { on := 5, ground := Ground.phase }, { on := 6, ground := Ground.phase }, { on := 7, ground := Ground.phase }, { on := 8, ground := Ground.phase }, { on := 9, ground := Ground.phase }, { on := 10, ground := Ground.phase }], guard := none }) (v := ?_) rfl (by kernel_rfl) (by kernel_rfl) (by kernel_rfl) (fun _ _ _ h => h) (Or.inl ⟨by rfl, ?_⟩) (by assumption) ?_
          rotate_left 1
          · (intro W hSW; (try dsimp only at hSW); first | (go_simp; done) | (go_simp; with_reducible rfl))
          try simp only [Act.put, List.setIfInBounds_toArray, List.set_cons_zero, List.set_cons_succ]
          refine wpAnyH_done (by kernel_rfl) ?_ _
          have hEND := hgaS
          clear hHeld
          go_wp2_with fail
          go_meet
          exact ⟨pA, xr12, yr12, rfl, rfl, hz.1, hrS, hEND⟩
        · rw [if_pos (by rfl)]
          go_simp
          have hgaA : V26.grownBy (World.alloc wc3 (.cells #[.int .i64 0, .slice none 0 0] 27)) none := World.grownBy.trans hgr3 (World.grownBy_alloc wc3 (.cells #[.int .i64 0, .slice none 0 0] 27) none)
          have halA : wc3.grownBy (World.alloc wc3 (.cells #[.int .i64 0, .slice none 0 0] 27)) none := World.grownBy_alloc wc3 (.cells #[.int .i64 0, .slice none 0 0] 27) none
          have hz := Two.new wc3 (.int .i64 0) (.slice none 0 0) 27
          have hgeq : V26.heap.size ≤ wc3.heap.size := World.grownBy.size hgr3
          have hgeA : ∀ p, wc3.heap.size = p → V26.heap.size ≤ p := fun p e => by rw [← e]; exact hgeq
          clear hgeq
          obtain ⟨WA, hWA⟩ : ∃ z, World.alloc wc3 (.cells #[.int .i64 0, .slice none 0 0] 27) = z := ⟨_, rfl⟩
          rw [hWA] at hgaA halA hz ⊢
          clear hWA
          obtain ⟨pA, hpA⟩ : ∃ p, wc3.heap.size = p := ⟨_, rfl⟩
          replace hgeA := hgeA pA hpA
          rw [hpA] at hz ⊢
          clear hpA
          refine hK.out _ _ (HS.out _ hgaA) (fun hHeld => ?_)
          clear hK K
          try simp only [Act.put, List.setIfInBounds_toArray, List.set_cons_zero, List.set_cons_succ]
          refine wpAnyH_ready (rs := [5]) (by kernel_rfl) (by simp) ?_
          refine (AllReadyH.cons (o := { dst := some 139, op := Op.call { callee := Callee.value (Operand.func 15), args := #[Operand.tmp 134, Operand.tmp 137, Operand.tmp 138], argTypes := #[3, 27, 27] }, type := 34, pos := "law.go:135", after := #[{ on := 0, ground := Ground.data }, { on := 3, ground := Ground.data }, { on := 4, ground := Ground.data }, { on := 3, ground := Ground.chain }], guard := none }) rfl (fun K hK => ?_) AllReadyH.nil)
          rw [if_pos (by rfl)]
          go_simp
          go_at_call 15
          have hpLo := hz.lt
          refine (joinS (k := k) (j := 2) k (by omega) vL11.out vL4.out hn1 hn5 hk1 hk3 (by omega) (by omega) (by omega) (by omega) (by rw [← EL11.out, ← EL4.out]; exact EL12.out) ZL11.out ZL4.out ZL12.out _ _ _ _ _ (hrr11.grown halA) (Hb2.out.grown hgaA)).mono ?_
          rintro e wc5 ⟨xr12, yr12, rfl, hrr12, gc5⟩
          have hgr5 := World.grownBy.trans hgaA gc5
          replace hz := hz.off gc5 (fun x e => by cases e)
          go_wp2_with fail
          refine hK.out _ _ (HS.out _ hgr5) (fun hHeld => ?_)
          clear hK K
          try simp only [Act.put, List.setIfInBounds_toArray, List.set_cons_zero, List.set_cons_succ]
          refine wpAnyH_take (i := 6) (oi := { dst := some 133, op := Op.move (Operand.tmp 139), type := 34, pos := "law.go:135", after := #[{ on := 5, ground := Ground.data }], guard := none }) (v := ?_) rfl (by kernel_rfl) (by kernel_rfl) (by kernel_rfl) (fun _ _ _ h => h) (Or.inl ⟨by rfl, ?_⟩) (by assumption) ?_
          rotate_left 1
          · (intro W hSW; (try dsimp only at hSW); first | (go_simp; done) | (go_simp; with_reducible rfl))
          try simp only [Act.put, List.setIfInBounds_toArray, List.set_cons_zero, List.set_cons_succ]
          refine wpAnyH_take (i := 7) (oi := { dst := some 140, op := Op.extract (Operand.tmp 133) 0, type := 27, pos := "law.go:135", after := #[{ on := 6, ground := Ground.data }], guard := none }) (v := ?_) rfl (by kernel_rfl) (by kernel_rfl) (by kernel_rfl) (fun _ _ _ h => h) (Or.inl ⟨by rfl, ?_⟩) (by assumption) ?_
          rotate_left 1
          · (intro W hSW; (try dsimp only at hSW); first | (go_simp; done) | (go_simp; with_reducible rfl))
          try simp only [Act.put, List.setIfInBounds_toArray, List.set_cons_zero, List.set_cons_succ]
          refine wpAnyH_take (i := 8) (oi := { dst := some 141, op := Op.extract (Operand.tmp 133) 1, type := 33, pos := "law.go:135", after := #[{ on := 6, ground := Ground.data }, { on := 10, ground := Ground.gcOnly Departure.lateStores }], guard := none }) (v := ?_) rfl (by kernel_rfl) (by kernel_rfl) (by kernel_rfl) (fun _ _ _ h => h) (Or.inl ⟨by rfl, ?_⟩) (by assumption) ?_
          rotate_left 1
          · (intro W hSW; (try dsimp only at hSW); first | (go_simp; done) | (go_simp; with_reducible rfl))
          try simp only [Act.put, List.setIfInBounds_toArray, List.set_cons_zero, List.set_cons_succ]
          refine wpAnyH_ready (rs := [10]) (by kernel_rfl) (by simp) ?_
          refine (AllReadyH.cons (o := { dst := none, op := Op.store 27 (Operand.tmp 25) (Operand.tmp 140), type := 0, pos := "law.go:135", after := #[{ on := 9, ground := Ground.data }, { on := 7, ground := Ground.data }, { on := 5, ground := Ground.chain }, { on := 0, ground := Ground.phase }, { on := 1, ground := Ground.phase }, { on := 2, ground := Ground.phase }, { on := 3, ground := Ground.phase }, { on := 4, ground := Ground.phase }, { on := 5, ground := Ground.phase }, { on := 6, ground := Ground.phase }, { on := 7, ground := Ground.phase }, { on := 8, ground := Ground.textOnly Departure.lateStores }, { on := 9, ground := Ground.phase }], guard := none }) rfl (fun K hK => ?_) AllReadyH.nil)
          rw [if_pos (by rfl)]
          have hzz := hz
          obtain ⟨⟨x0, x1⟩, xf⟩ := hzz
          have xf0 := xf 0
          have xf1 := xf 1
          clear xf
          go_simp
          clear x0 x1 xf0 xf1
          have hst := two_set hz (.int .i64 ((k : Nat) : Int)) (.slice xr12 lL12 yr12)
          have hgaS := grown_own hgr5 hst.2 (fun k hk => by cases hk; exact hgeA)
          have hrS := (hrr12.off hst.2 (fun x e => by cases e; exact .inl hpLo)).here
          replace hz := hst.1
          clear hst
          obtain ⟨WS, hWS⟩ : ∃ z, (World.setCell (World.setCell wc5 ⟨pA, 0, none⟩ (.int .i64 ((k : Nat) : Int))) ⟨pA, 1, none⟩ (.slice xr12 lL12 yr12)) = z := ⟨_, rfl⟩
          rw [hWS] at hgaS hz hrS ⊢
          clear hWS
          refine hK.out _ _ (HS.out _ hgaS) (fun hHeld => ?_)
          clear hK K
          try simp only [Act.put, List.setIfInBounds_toArray, List.set_cons_zero, List.set_cons_succ]
          refine wpAnyH_take (i := 11) (oi := { dst := some 26, op := Op.assign (Operand.tmp 141), type := 33, pos := "law.go:135", after := #[{ on := 8, ground := Ground.data }, { on := 10, ground := Ground.chain }, { on := 0, ground := Ground.phase }, { on := 1, ground := Ground.phase }, { on := 2, ground := Ground.phase }, { on := 3, ground := Ground.phase }, { on := 4, ground := Ground.phase }, { on := 5, ground := Ground.phase }, { on := 6, ground := Ground.phase }, { on := 7, ground := Ground.phase }, { on := 8, ground := Ground.phase }, { on := 9, ground := Ground.phase }, { on := 10, ground := Ground.phase }], guard := none }) (v := ?_) rfl (by kernel_rfl) (by kernel_rfl) (by kernel_rfl) (fun _ _ _ h => h) (Or.inl ⟨by rfl, ?_⟩) (by assumption) ?_
          rotate_left 1
          · (intro W hSW; (try dsimp only at hSW); first | (go_simp; done) | (go_simp; with_reducible rfl))
          try simp only [Act.put, List.setIfInBounds_toArray, List.set_cons_zero, List.set_cons_succ]
          refine wpAnyH_done (by kernel_rfl) ?_ _
          have hEND := hgaS
          clear hHeld
          go_wp2_with fail
          go_meet
          exact ⟨pA, xr12, yr12, rfl, rfl, hz.1, hrS, hEND⟩
      · rw [if_pos (by rfl)]
        go_simp
        have hgaA : V26.grownBy ((World.alloc V26 (.cells #[.int .i64 0, .slice none 0 0] 27)).drew) none := World.grownBy.trans (World.grownBy_alloc V26 (.cells #[.int .i64 0, .slice none 0 0] 27) none) (⟨rfl, rfl, rfl, Nat.le_refl _, fun _ _ _ => rfl⟩ : (World.alloc V26 (.cells #[.int .i64 0, .slice none 0 0] 27)).grownBy (World.alloc V26 (.cells #[.int .i64 0, .slice none 0 0] 27)).drew none)
        have halA : V26.drew.grownBy ((World.alloc V26 (.cells #[.int .i64 0, .slice none 0 0] 27)).drew) none := World.grownBy_alloc V26.drew (.cells #[.int .i64 0, .slice none 0 0] 27) none
        have hz := (Two.new V26 (.int .i64 0) (.slice none 0 0) 27).off (⟨rfl, rfl, rfl, Nat.le_refl _, fun _ _ _ => rfl⟩ : (World.alloc V26 (.cells #[.int .i64 0, .slice none 0 0] 27)).grownBy (World.alloc V26 (.cells #[.int .i64 0, .slice none 0 0] 27)).drew none) (fun x e => by cases e)
        have hgeq : V26.heap.size ≤ V26.heap.size := Nat.le_refl _
        have hgeA : ∀ p, V26.heap.size = p → V26.heap.size ≤ p := fun p e => by rw [← e]; exact hgeq
        clear hgeq
        obtain ⟨WA, hWA⟩ : ∃ z, (World.alloc V26 (.cells #[.int .i64 0, .slice none 0 0] 27)).drew = z := ⟨_, rfl⟩
        rw [hWA] at hgaA halA hz ⊢
        clear hWA
        obtain ⟨pA, hpA⟩ : ∃ p, V26.heap.size = p := ⟨_, rfl⟩
        replace hgeA := hgeA pA hpA
        rw [hpA] at hz ⊢
        clear hpA
        refine hK.out _ _ (HS.out _ hgaA) (fun hHeld => ?_)
        clear hK K
        try simp only [Act.put, List.setIfInBounds_toArray, List.set_cons_zero, List.set_cons_succ]
        refine wpAnyH_ready (rs := [3]) (by kernel_rfl) (by simp) ?_
        refine (AllReadyH.cons (o := { dst := some 137, op := Op.call { callee := Callee.value (Operand.func 27), args := #[Operand.tmp 135, Operand.tmp 136], argTypes := #[27, 27] }, type := 27, pos := "law.go:135", after := #[{ on := 1, ground := Ground.data }, { on := 2, ground := Ground.data }], guard := none }) rfl (fun K hK => ?_) AllReadyH.nil)
        rw [if_pos (by rfl)]
        go_simp
        go_at_call 27
        refine (unionV (k : Nat) (k : Nat) vL1.out vL2.out hn5 hk3 (by rw [← EL1.out, ← EL2.out]; exact EL11.out) ZL1.out ZL2.out ZL11.out _ _ _ _ _ (Ha.out.grown hgaA) (Hb.out.grown hgaA)).mono ?_
        rintro e wc3 ⟨xr11, yr11, rfl, hrr11, gc3⟩
        have hgr3 := World.grownBy.trans hgaA gc3
        replace hz := hz.off gc3 (fun x e => by cases e)
        go_wp2_with fail
        refine hK.out _ _ (HS.out _ hgr3) (fun hHeld => ?_)
        clear hK K
        try simp only [Act.put, List.setIfInBounds_toArray, List.set_cons_zero, List.set_cons_succ]
        refine wpAnyH_ready (rs := [5]) (by kernel_rfl) (by simp) ?_
        refine (AllReadyH.cons (o := { dst := some 139, op := Op.call { callee := Callee.value (Operand.func 15), args := #[Operand.tmp 134, Operand.tmp 137, Operand.tmp 138], argTypes := #[3, 27, 27] }, type := 34, pos := "law.go:135", after := #[{ on := 0, ground := Ground.data }, { on := 3, ground := Ground.data }, { on := 4, ground := Ground.data }, { on := 3, ground := Ground.chain }], guard := none }) rfl (fun K hK => ?_) AllReadyH.nil)
        rw [if_pos (by rfl)]
        go_simp
        go_at_call 15
        have hpLo := hz.lt
        refine (joinS (k := k) (j := 2) k (by omega) vL11.out vL4.out hn1 hn5 hk1 hk3 (by omega) (by omega) (by omega) (by omega) (by rw [← EL11.out, ← EL4.out]; exact EL12.out) ZL11.out ZL4.out ZL12.out _ _ _ _ _ hrr11 (Hb2.out.grown hgr3)).mono ?_
        rintro e wc5 ⟨xr12, yr12, rfl, hrr12, gc5⟩
        have hgr5 := World.grownBy.trans hgr3 gc5
        replace hz := hz.off gc5 (fun x e => by cases e)
        go_wp2_with fail
        refine hK.out _ _ (HS.out _ hgr5) (fun hHeld => ?_)
        clear hK K
        try simp only [Act.put, List.setIfInBounds_toArray, List.set_cons_zero, List.set_cons_succ]
        refine wpAnyH_take (i := 6) (oi := { dst := some 133, op := Op.move (Operand.tmp 139), type := 34, pos := "law.go:135", after := #[{ on := 5, ground := Ground.data }], guard := none }) (v := ?_) rfl (by kernel_rfl) (by kernel_rfl) (by kernel_rfl) (fun _ _ _ h => h) (Or.inl ⟨by rfl, ?_⟩) (by assumption) ?_
        rotate_left 1
        · (intro W hSW; (try dsimp only at hSW); first | (go_simp; done) | (go_simp; with_reducible rfl))
        try simp only [Act.put, List.setIfInBounds_toArray, List.set_cons_zero, List.set_cons_succ]
        refine wpAnyH_take (i := 7) (oi := { dst := some 140, op := Op.extract (Operand.tmp 133) 0, type := 27, pos := "law.go:135", after := #[{ on := 6, ground := Ground.data }], guard := none }) (v := ?_) rfl (by kernel_rfl) (by kernel_rfl) (by kernel_rfl) (fun _ _ _ h => h) (Or.inl ⟨by rfl, ?_⟩) (by assumption) ?_
        rotate_left 1
        · (intro W hSW; (try dsimp only at hSW); first | (go_simp; done) | (go_simp; with_reducible rfl))
        try simp only [Act.put, List.setIfInBounds_toArray, List.set_cons_zero, List.set_cons_succ]
        refine wpAnyH_take (i := 8) (oi := { dst := some 141, op := Op.extract (Operand.tmp 133) 1, type := 33, pos := "law.go:135", after := #[{ on := 6, ground := Ground.data }, { on := 10, ground := Ground.gcOnly Departure.lateStores }], guard := none }) (v := ?_) rfl (by kernel_rfl) (by kernel_rfl) (by kernel_rfl) (fun _ _ _ h => h) (Or.inl ⟨by rfl, ?_⟩) (by assumption) ?_
        rotate_left 1
        · (intro W hSW; (try dsimp only at hSW); first | (go_simp; done) | (go_simp; with_reducible rfl))
        try simp only [Act.put, List.setIfInBounds_toArray, List.set_cons_zero, List.set_cons_succ]
        refine wpAnyH_ready (rs := [10]) (by kernel_rfl) (by simp) ?_
        refine (AllReadyH.cons (o := { dst := none, op := Op.store 27 (Operand.tmp 25) (Operand.tmp 140), type := 0, pos := "law.go:135", after := #[{ on := 9, ground := Ground.data }, { on := 7, ground := Ground.data }, { on := 5, ground := Ground.chain }, { on := 0, ground := Ground.phase }, { on := 1, ground := Ground.phase }, { on := 2, ground := Ground.phase }, { on := 3, ground := Ground.phase }, { on := 4, ground := Ground.phase }, { on := 5, ground := Ground.phase }, { on := 6, ground := Ground.phase }, { on := 7, ground := Ground.phase }, { on := 8, ground := Ground.textOnly Departure.lateStores }, { on := 9, ground := Ground.phase }], guard := none }) rfl (fun K hK => ?_) AllReadyH.nil)
        rw [if_pos (by rfl)]
        have hzz := hz
        obtain ⟨⟨x0, x1⟩, xf⟩ := hzz
        have xf0 := xf 0
        have xf1 := xf 1
        clear xf
        go_simp
        clear x0 x1 xf0 xf1
        have hst := two_set hz (.int .i64 ((k : Nat) : Int)) (.slice xr12 lL12 yr12)
        have hgaS := grown_own hgr5 hst.2 (fun k hk => by cases hk; exact hgeA)
        have hrS := (hrr12.off hst.2 (fun x e => by cases e; exact .inl hpLo)).here
        replace hz := hst.1
        clear hst
        obtain ⟨WS, hWS⟩ : ∃ z, (World.setCell (World.setCell wc5 ⟨pA, 0, none⟩ (.int .i64 ((k : Nat) : Int))) ⟨pA, 1, none⟩ (.slice xr12 lL12 yr12)) = z := ⟨_, rfl⟩
        rw [hWS] at hgaS hz hrS ⊢
        clear hWS
        refine hK.out _ _ (HS.out _ hgaS) (fun hHeld => ?_)
        clear hK K
        try simp only [Act.put, List.setIfInBounds_toArray, List.set_cons_zero, List.set_cons_succ]
        refine wpAnyH_take (i := 11) (oi := { dst := some 26, op := Op.assign (Operand.tmp 141), type := 33, pos := "law.go:135", after := #[{ on := 8, ground := Ground.data }, { on := 10, ground := Ground.chain }, { on := 0, ground := Ground.phase }, { on := 1, ground := Ground.phase }, { on := 2, ground := Ground.phase }, { on := 3, ground := Ground.phase }, { on := 4, ground := Ground.phase }, { on := 5, ground := Ground.phase }, { on := 6, ground := Ground.phase }, { on := 7, ground := Ground.phase }, { on := 8, ground := Ground.phase }, { on := 9, ground := Ground.phase }, { on := 10, ground := Ground.phase }], guard := none }) (v := ?_) rfl (by kernel_rfl) (by kernel_rfl) (by kernel_rfl) (fun _ _ _ h => h) (Or.inl ⟨by rfl, ?_⟩) (by assumption) ?_
        rotate_left 1
        · (intro W hSW; (try dsimp only at hSW); first | (go_simp; done) | (go_simp; with_reducible rfl))
        try simp only [Act.put, List.setIfInBounds_toArray, List.set_cons_zero, List.set_cons_succ]
        refine wpAnyH_done (by kernel_rfl) ?_ _
        have hEND := hgaS
        clear hHeld
        go_wp2_with fail
        go_meet
        exact ⟨pA, xr12, yr12, rfl, rfl, hz.1, hrS, hEND⟩
  case rest =>
    as_aux_lemma =>
      obtain ⟨bB25, xb25x, yb25x, rfl, rfl, hbx, hr, g⟩ := hcut
      obtain ⟨V27, rfl⟩ : ∃ z, z = wc := ⟨_, rfl⟩
      replace Ha := Lib.hid (Ha.out.grown g)
      replace Hb := Lib.hid (Hb.out.grown g)
      replace Hc := Lib.hid (Hc.out.grown g)
      replace Hb2 := Lib.hid (Hb2.out.grown g)
      replace Hcj := Lib.hid (Hcj.out.grown g)
      replace Hr1 := Lib.hid (Hr1.out.grown g)
      replace Hr2 := Lib.hid (Hr2.out.grown g)
      replace Hr3 := Lib.hid (Hr3.out.grown g)
      replace Hr4 := Lib.hid (Hr4.out.grown g)
      replace Hr6 := Lib.hid (Hr6.out.grown g)
      replace Hr7 := Lib.hid (Hr7.out.grown g)
      replace Hr8 := Lib.hid (Hr8.out.grown g)
      replace HB8 := Lib.hid (And.intro (World.grownBy.cell g HB8.out.1 (by simp)) (World.grownBy.cell g HB8.out.2 (by simp)))
      replace HB9 := Lib.hid (And.intro (World.grownBy.cell g HB9.out.1 (by simp)) (World.grownBy.cell g HB9.out.2 (by simp)))
      replace HB10 := Lib.hid (And.intro (World.grownBy.cell g HB10.out.1 (by simp)) (World.grownBy.cell g HB10.out.2 (by simp)))
      replace HB11 := Lib.hid (And.intro (World.grownBy.cell g HB11.out.1 (by simp)) (World.grownBy.cell g HB11.out.2 (by simp)))
      replace HB13 := Lib.hid (And.intro (World.grownBy.cell g HB13.out.1 (by simp)) (World.grownBy.cell g HB13.out.2 (by simp)))
      replace HB15 := Lib.hid (And.intro (World.grownBy.cell g HB15.out.1 (by simp)) (World.grownBy.cell g HB15.out.2 (by simp)))
      replace HB17 := Lib.hid (And.intro (World.grownBy.cell g HB17.out.1 (by simp)) (World.grownBy.cell g HB17.out.2 (by simp)))
      replace HB19 := Lib.hid (And.intro (World.grownBy.cell g HB19.out.1 (by simp)) (World.grownBy.cell g HB19.out.2 (by simp)))
      replace HB20 := Lib.hid (And.intro (World.grownBy.cell g HB20.out.1 (by simp)) (World.grownBy.cell g HB20.out.2 (by simp)))
      replace HB22 := Lib.hid (And.intro (World.grownBy.cell g HB22.out.1 (by simp)) (World.grownBy.cell g HB22.out.2 (by simp)))
      replace HB24 := Lib.hid (And.intro (World.grownBy.cell g HB24.out.1 (by simp)) (World.grownBy.cell g HB24.out.2 (by simp)))
      replace HRB := Lib.hid (And.intro (World.grownBy.cell g HRB.out.1 (by simp)) (And.intro (World.grownBy.cell g HRB.out.2.1 (by simp)) (And.intro (World.grownBy.cell g HRB.out.2.2.1 (by simp)) (And.intro (World.grownBy.cell g HRB.out.2.2.2.1 (by simp)) (World.grownBy.cell g HRB.out.2.2.2.2 (by simp))))))
      replace HR := Lib.hid (HR.out.grown g)
      replace HG := Lib.hid (World.grownBy.trans HG.out g)
      clear g
      have Hb25x := Lib.hid hr
      have HB25 := Lib.hid hbx
      clear hr hbx
      have qB80 := HB8.out.1
      have qB81 := HB8.out.2
      have qB90 := HB9.out.1
      have qB91 := HB9.out.2
      have qB100 := HB10.out.1
      have qB101 := HB10.out.2
      have qB110 := HB11.out.1
      have qB111 := HB11.out.2
      have qB130 := HB13.out.1
      have qB131 := HB13.out.2
      have qB150 := HB15.out.1
      have qB151 := HB15.out.2
      have qB170 := HB17.out.1
      have qB171 := HB17.out.2
      have qB190 := HB19.out.1
      have qB191 := HB19.out.2
      have qB200 := HB20.out.1
      have qB201 := HB20.out.2
      have qB220 := HB22.out.1
      have qB221 := HB22.out.2
      have qB240 := HB24.out.1
      have qB241 := HB24.out.2
      have qB250 := HB25.out.1
      have qB251 := HB25.out.2
      have qr0 := HRB.out.1
      have qr1 := HRB.out.2.1
      have qr2 := HRB.out.2.2.1
      have qr3 := HRB.out.2.2.2.1
      have qr4 := HRB.out.2.2.2.2
      go_upto_region 19 with fail
      clear qB80 qB81 qB90 qB91 qB100 qB101 qB110 qB111 qB130 qB131 qB150 qB151 qB170 qB171 qB190 qB191 qB200 qB201 qB220 qB221 qB240 qB241 qB250 qB251 qr0 qr1 qr2 qr3 qr4
      have qB80 := HB8.out.1
      have qB81 := HB8.out.2
      have qB90 := HB9.out.1
      have qB91 := HB9.out.2
      have qB100 := HB10.out.1
      have qB101 := HB10.out.2
      have qB110 := HB11.out.1
      have qB111 := HB11.out.2
      have qB130 := HB13.out.1
      have qB131 := HB13.out.2
      have qB150 := HB15.out.1
      have qB151 := HB15.out.2
      have qB170 := HB17.out.1
      have qB171 := HB17.out.2
      have qB190 := HB19.out.1
      have qB191 := HB19.out.2
      have qB200 := HB20.out.1
      have qB201 := HB20.out.2
      have qB220 := HB22.out.1
      have qB221 := HB22.out.2
      have qB240 := HB24.out.1
      have qB241 := HB24.out.2
      have qB250 := HB25.out.1
      have qB251 := HB25.out.2
      have qr0 := HRB.out.1
      have qr1 := HRB.out.2.1
      have qr2 := HRB.out.2.2.1
      have qr3 := HRB.out.2.2.2.1
      have qr4 := HRB.out.2.2.2.2
      go_wp2_with fail
      clear qB80 qB81 qB90 qB91 qB100 qB101 qB110 qB111 qB130 qB131 qB150 qB151 qB170 qB171 qB190 qB191 qB200 qB201 qB220 qB221 qB240 qB241 qB250 qB251 qr0 qr1 qr2 qr3 qr4
      refine (joinV (k := k) (j := 2) k (by omega) vL2.out vL4.out hn1 hn5 hk1 hk3 (by omega) (by omega) (by omega) (by omega) (by rw [← EL2.out, ← EL4.out]; exact EL13.out) ZL2.out ZL4.out ZL13.out _ _ _ _ _ Hb.out Hb2.out).mono ?_
      rintro e V28 ⟨xr13, yr13, rfl, hr, g⟩
      replace Ha := Lib.hid (Ha.out.grown g)
      replace Hb := Lib.hid (Hb.out.grown g)
      replace Hc := Lib.hid (Hc.out.grown g)
      replace Hb2 := Lib.hid (Hb2.out.grown g)
      replace Hcj := Lib.hid (Hcj.out.grown g)
      replace Hr1 := Lib.hid (Hr1.out.grown g)
      replace Hr2 := Lib.hid (Hr2.out.grown g)
      replace Hr3 := Lib.hid (Hr3.out.grown g)
      replace Hr4 := Lib.hid (Hr4.out.grown g)
      replace Hr6 := Lib.hid (Hr6.out.grown g)
      replace Hr7 := Lib.hid (Hr7.out.grown g)
      replace Hr8 := Lib.hid (Hr8.out.grown g)
      replace Hb25x := Lib.hid (Hb25x.out.grown g)
      replace HB8 := Lib.hid (And.intro (World.grownBy.cell g HB8.out.1 (by simp)) (World.grownBy.cell g HB8.out.2 (by simp)))
      replace HB9 := Lib.hid (And.intro (World.grownBy.cell g HB9.out.1 (by simp)) (World.grownBy.cell g HB9.out.2 (by simp)))
      replace HB10 := Lib.hid (And.intro (World.grownBy.cell g HB10.out.1 (by simp)) (World.grownBy.cell g HB10.out.2 (by simp)))
      replace HB11 := Lib.hid (And.intro (World.grownBy.cell g HB11.out.1 (by simp)) (World.grownBy.cell g HB11.out.2 (by simp)))
      replace HB13 := Lib.hid (And.intro (World.grownBy.cell g HB13.out.1 (by simp)) (World.grownBy.cell g HB13.out.2 (by simp)))
      replace HB15 := Lib.hid (And.intro (World.grownBy.cell g HB15.out.1 (by simp)) (World.grownBy.cell g HB15.out.2 (by simp)))
      replace HB17 := Lib.hid (And.intro (World.grownBy.cell g HB17.out.1 (by simp)) (World.grownBy.cell g HB17.out.2 (by simp)))
      replace HB19 := Lib.hid (And.intro (World.grownBy.cell g HB19.out.1 (by simp)) (World.grownBy.cell g HB19.out.2 (by simp)))
      replace HB20 := Lib.hid (And.intro (World.grownBy.cell g HB20.out.1 (by simp)) (World.grownBy.cell g HB20.out.2 (by simp)))
      replace HB22 := Lib.hid (And.intro (World.grownBy.cell g HB22.out.1 (by simp)) (World.grownBy.cell g HB22.out.2 (by simp)))
      replace HB24 := Lib.hid (And.intro (World.grownBy.cell g HB24.out.1 (by simp)) (World.grownBy.cell g HB24.out.2 (by simp)))
      replace HB25 := Lib.hid (And.intro (World.grownBy.cell g HB25.out.1 (by simp)) (World.grownBy.cell g HB25.out.2 (by simp)))
      replace HRB := Lib.hid (And.intro (World.grownBy.cell g HRB.out.1 (by simp)) (And.intro (World.grownBy.cell g HRB.out.2.1 (by simp)) (And.intro (World.grownBy.cell g HRB.out.2.2.1 (by simp)) (And.intro (World.grownBy.cell g HRB.out.2.2.2.1 (by simp)) (World.grownBy.cell g HRB.out.2.2.2.2 (by simp))))))
      replace HR := Lib.hid (HR.out.grown g)
      replace HG := Lib.hid (World.grownBy.trans HG.out g)
      clear g
      have Hr13 := Lib.hid hr
      clear hr
      have qB80 := HB8.out.1
      have qB81 := HB8.out.2
      have qB90 := HB9.out.1
      have qB91 := HB9.out.2
      have qB100 := HB10.out.1
      have qB101 := HB10.out.2
      have qB110 := HB11.out.1
      have qB111 := HB11.out.2
      have qB130 := HB13.out.1
      have qB131 := HB13.out.2
      have qB150 := HB15.out.1
      have qB151 := HB15.out.2
      have qB170 := HB17.out.1
      have qB171 := HB17.out.2
      have qB190 := HB19.out.1
      have qB191 := HB19.out.2
      have qB200 := HB20.out.1
      have qB201 := HB20.out.2
      have qB220 := HB22.out.1
      have qB221 := HB22.out.2
      have qB240 := HB24.out.1
      have qB241 := HB24.out.2
      have qB250 := HB25.out.1
      have qB251 := HB25.out.2
      have qr0 := HRB.out.1
      have qr1 := HRB.out.2.1
      have qr2 := HRB.out.2.2.1
      have qr3 := HRB.out.2.2.2.1
      have qr4 := HRB.out.2.2.2.2
      go_upto_region 20 with fail
      clear qB80 qB81 qB90 qB91 qB100 qB101 qB110 qB111 qB130 qB131 qB150 qB151 qB170 qB171 qB190 qB191 qB200 qB201 qB220 qB221 qB240 qB241 qB250 qB251 qr0 qr1 qr2 qr3 qr4
      have hbx := one_cells V28 (.int .i64 (k : Nat)) (.slice xr13 lL13 yr13) 27
      have g := World.grownBy_alloc V28 (.cells #[.int .i64 (k : Nat), .slice xr13 lL13 yr13] 27) none
      obtain ⟨V29, hV29⟩ : ∃ z, World.alloc V28 (.cells #[.int .i64 (k : Nat), .slice xr13 lL13 yr13] 27) = z := ⟨_, rfl⟩
      rw [hV29] at g hbx ⊢
      clear hV29
      obtain ⟨bB27, hb⟩ : ∃ b, V28.heap.size = b := ⟨_, rfl⟩
      rw [hb] at hbx ⊢
      clear hb
      replace Ha := Lib.hid (Ha.out.grown g)
      replace Hb := Lib.hid (Hb.out.grown g)
      replace Hc := Lib.hid (Hc.out.grown g)
      replace Hb2 := Lib.hid (Hb2.out.grown g)
      replace Hcj := Lib.hid (Hcj.out.grown g)
      replace Hr1 := Lib.hid (Hr1.out.grown g)
      replace Hr2 := Lib.hid (Hr2.out.grown g)
      replace Hr3 := Lib.hid (Hr3.out.grown g)
      replace Hr4 := Lib.hid (Hr4.out.grown g)
      replace Hr6 := Lib.hid (Hr6.out.grown g)
      replace Hr7 := Lib.hid (Hr7.out.grown g)
      replace Hr8 := Lib.hid (Hr8.out.grown g)
      replace Hb25x := Lib.hid (Hb25x.out.grown g)
      replace Hr13 := Lib.hid (Hr13.out.grown g)
      replace HB8 := Lib.hid (And.intro (World.grownBy.cell g HB8.out.1 (by simp)) (World.grownBy.cell g HB8.out.2 (by simp)))
      replace HB9 := Lib.hid (And.intro (World.grownBy.cell g HB9.out.1 (by simp)) (World.grownBy.cell g HB9.out.2 (by simp)))
      replace HB10 := Lib.hid (And.intro (World.grownBy.cell g HB10.out.1 (by simp)) (World.grownBy.cell g HB10.out.2 (by simp)))
      replace HB11 := Lib.hid (And.intro (World.grownBy.cell g HB11.out.1 (by simp)) (World.grownBy.cell g HB11.out.2 (by simp)))
      replace HB13 := Lib.hid (And.intro (World.grownBy.cell g HB13.out.1 (by simp)) (World.grownBy.cell g HB13.out.2 (by simp)))
      replace HB15 := Lib.hid (And.intro (World.grownBy.cell g HB15.out.1 (by simp)) (World.grownBy.cell g HB15.out.2 (by simp)))
      replace HB17 := Lib.hid (And.intro (World.grownBy.cell g HB17.out.1 (by simp)) (World.grownBy.cell g HB17.out.2 (by simp)))
      replace HB19 := Lib.hid (And.intro (World.grownBy.cell g HB19.out.1 (by simp)) (World.grownBy.cell g HB19.out.2 (by simp)))
      replace HB20 := Lib.hid (And.intro (World.grownBy.cell g HB20.out.1 (by simp)) (World.grownBy.cell g HB20.out.2 (by simp)))
      replace HB22 := Lib.hid (And.intro (World.grownBy.cell g HB22.out.1 (by simp)) (World.grownBy.cell g HB22.out.2 (by simp)))
      replace HB24 := Lib.hid (And.intro (World.grownBy.cell g HB24.out.1 (by simp)) (World.grownBy.cell g HB24.out.2 (by simp)))
      replace HB25 := Lib.hid (And.intro (World.grownBy.cell g HB25.out.1 (by simp)) (World.grownBy.cell g HB25.out.2 (by simp)))
      replace HRB := Lib.hid (And.intro (World.grownBy.cell g HRB.out.1 (by simp)) (And.intro (World.grownBy.cell g HRB.out.2.1 (by simp)) (And.intro (World.grownBy.cell g HRB.out.2.2.1 (by simp)) (And.intro (World.grownBy.cell g HRB.out.2.2.2.1 (by simp)) (World.grownBy.cell g HRB.out.2.2.2.2 (by simp))))))
      replace HR := Lib.hid (HR.out.grown g)
      replace HG := Lib.hid (World.grownBy.trans HG.out g)
      clear g
      have HB27 := Lib.hid (And.intro hbx.2.1 hbx.2.2.1)
      clear hbx
      go_cut [29, 30] (fun s0 s1 wx => ∃ p x y, s0 = .pointer (some ⟨p, 0, none⟩) ∧ s1 = .int .i64 0 ∧ (wx.cell? ⟨p, 0, none⟩ = some (.int .i64 ((k : Nat) : Int)) ∧ wx.cell? ⟨p, 1, none⟩ = some (.slice x lL14 y)) ∧ IntsW wx x y L14 ∧ V29.grownBy wx none)
      case first =>
        as_aux_lemma =>
          have HS := Lib.hid (fun (Wh : World) (hWh : V29.grownBy Wh none) => (⟨hWh, hWh.cell HB8.out.1 (by simp), hWh.cell HB8.out.2 (by simp), hWh.cell HB9.out.1 (by simp), hWh.cell HB9.out.2 (by simp), hWh.cell HB10.out.1 (by simp), hWh.cell HB10.out.2 (by simp), hWh.cell HB11.out.1 (by simp), hWh.cell HB11.out.2 (by simp), hWh.cell HB13.out.1 (by simp), hWh.cell HB13.out.2 (by simp), hWh.cell HB15.out.1 (by simp), hWh.cell HB15.out.2 (by simp), hWh.cell HB17.out.1 (by simp), hWh.cell HB17.out.2 (by simp), hWh.cell HB19.out.1 (by simp), hWh.cell HB19.out.2 (by simp), hWh.cell HB20.out.1 (by simp), hWh.cell HB20.out.2 (by simp), hWh.cell HB22.out.1 (by simp), hWh.cell HB22.out.2 (by simp), hWh.cell HB24.out.1 (by simp), hWh.cell HB24.out.2 (by simp), hWh.cell HB25.out.1 (by simp), hWh.cell HB25.out.2 (by simp), hWh.cell HB27.out.1 (by simp), hWh.cell HB27.out.2 (by simp)⟩ : (fun Wh : World => V29.grownBy Wh none ∧ Wh.cell? ⟨bB8, 0, none⟩ = some (.int .i64 (k : Nat)) ∧ Wh.cell? ⟨bB8, 1, none⟩ = some (.slice xa lL1 ya) ∧ Wh.cell? ⟨bB9, 0, none⟩ = some (.int .i64 2) ∧ Wh.cell? ⟨bB9, 1, none⟩ = some (.slice xb2 lL4 yb2) ∧ Wh.cell? ⟨bB10, 0, none⟩ = some (.int .i64 (j : Nat)) ∧ Wh.cell? ⟨bB10, 1, none⟩ = some (.slice xcj lL5 ycj) ∧ Wh.cell? ⟨bB11, 0, none⟩ = some (.int .i64 (k : Nat)) ∧ Wh.cell? ⟨bB11, 1, none⟩ = some (.slice xr1 lL6 yr1) ∧ Wh.cell? ⟨bB13, 0, none⟩ = some (.int .i64 (j : Nat)) ∧ Wh.cell? ⟨bB13, 1, none⟩ = some (.slice xr2 lL7 yr2) ∧ Wh.cell? ⟨bB15, 0, none⟩ = some (.int .i64 (qq : Nat)) ∧ Wh.cell? ⟨bB15, 1, none⟩ = some (.slice xr3 lLQ yr3) ∧ Wh.cell? ⟨bB17, 0, none⟩ = some (.int .i64 (qq : Nat)) ∧ Wh.cell? ⟨bB17, 1, none⟩ = some (.slice xr4 lLQ yr4) ∧ Wh.cell? ⟨bB19, 0, none⟩ = some (.int .i64 2) ∧ Wh.cell? ⟨bB19, 1, none⟩ = some (.slice xr6 lL8 yr6) ∧ Wh.cell? ⟨bB20, 0, none⟩ = some (.int .i64 (k : Nat)) ∧ Wh.cell? ⟨bB20, 1, none⟩ = some (.slice xr7 lL9 yr7) ∧ Wh.cell? ⟨bB22, 0, none⟩ = some (.int .i64 (k : Nat)) ∧ Wh.cell? ⟨bB22, 1, none⟩ = some (.slice xr8 lL10 yr8) ∧ Wh.cell? ⟨bB24, 0, none⟩ = some (.int .i64 (k : Nat)) ∧ Wh.cell? ⟨bB24, 1, none⟩ = some (.slice xb lL2 yb) ∧ Wh.cell? ⟨bB25, 0, none⟩ = some (.int .i64 ((k : Nat) : Int)) ∧ Wh.cell? ⟨bB25, 1, none⟩ = some (.slice xb25x lL12 yb25x) ∧ Wh.cell? ⟨bB27, 0, none⟩ = some (.int .i64 (k : Nat)) ∧ Wh.cell? ⟨bB27, 1, none⟩ = some (.slice xr13 lL13 yr13)) Wh))
          have hdr : V29.grownBy V29.drew none := ⟨rfl, rfl, rfl, Nat.le_refl _, fun _ _ _ => rfl⟩
          refine wp_region_held_drew (S := (fun Wh : World => V29.grownBy Wh none ∧ Wh.cell? ⟨bB8, 0, none⟩ = some (.int .i64 (k : Nat)) ∧ Wh.cell? ⟨bB8, 1, none⟩ = some (.slice xa lL1 ya) ∧ Wh.cell? ⟨bB9, 0, none⟩ = some (.int .i64 2) ∧ Wh.cell? ⟨bB9, 1, none⟩ = some (.slice xb2 lL4 yb2) ∧ Wh.cell? ⟨bB10, 0, none⟩ = some (.int .i64 (j : Nat)) ∧ Wh.cell? ⟨bB10, 1, none⟩ = some (.slice xcj lL5 ycj) ∧ Wh.cell? ⟨bB11, 0, none⟩ = some (.int .i64 (k : Nat)) ∧ Wh.cell? ⟨bB11, 1, none⟩ = some (.slice xr1 lL6 yr1) ∧ Wh.cell? ⟨bB13, 0, none⟩ = some (.int .i64 (j : Nat)) ∧ Wh.cell? ⟨bB13, 1, none⟩ = some (.slice xr2 lL7 yr2) ∧ Wh.cell? ⟨bB15, 0, none⟩ = some (.int .i64 (qq : Nat)) ∧ Wh.cell? ⟨bB15, 1, none⟩ = some (.slice xr3 lLQ yr3) ∧ Wh.cell? ⟨bB17, 0, none⟩ = some (.int .i64 (qq : Nat)) ∧ Wh.cell? ⟨bB17, 1, none⟩ = some (.slice xr4 lLQ yr4) ∧ Wh.cell? ⟨bB19, 0, none⟩ = some (.int .i64 2) ∧ Wh.cell? ⟨bB19, 1, none⟩ = some (.slice xr6 lL8 yr6) ∧ Wh.cell? ⟨bB20, 0, none⟩ = some (.int .i64 (k : Nat)) ∧ Wh.cell? ⟨bB20, 1, none⟩ = some (.slice xr7 lL9 yr7) ∧ Wh.cell? ⟨bB22, 0, none⟩ = some (.int .i64 (k : Nat)) ∧ Wh.cell? ⟨bB22, 1, none⟩ = some (.slice xr8 lL10 yr8) ∧ Wh.cell? ⟨bB24, 0, none⟩ = some (.int .i64 (k : Nat)) ∧ Wh.cell? ⟨bB24, 1, none⟩ = some (.slice xb lL2 yb) ∧ Wh.cell? ⟨bB25, 0, none⟩ = some (.int .i64 ((k : Nat) : Int)) ∧ Wh.cell? ⟨bB25, 1, none⟩ = some (.slice xb25x lL12 yb25x) ∧ Wh.cell? ⟨bB27, 0, none⟩ = some (.int .i64 (k : Nat)) ∧ Wh.cell? ⟨bB27, 1, none⟩ = some (.slice xr13 lL13 yr13))) (by kernel_rfl) (HS.out _ hdr) (fun hHeld => ?_)
          refine wpAnyH_take (i := 0) (oi := { dst := some 150, op := Op.move (Operand.tmp 6), type := 3, pos := "law.go:137", after := #[], guard := none }) (v := ?_) rfl (by kernel_rfl) (by kernel_rfl) (by kernel_rfl) (fun _ _ _ h => h) (Or.inl ⟨by rfl, ?_⟩) (by assumption) ?_
          rotate_left 1
          · (intro W hSW; (try dsimp only at hSW); first | (go_simp; done) | (go_simp; with_reducible rfl))
          try simp only [Act.put, List.setIfInBounds_toArray, List.set_cons_zero, List.set_cons_succ]
          refine wpAnyH_take (i := 1) (oi := { dst := some 151, op := Op.load 27 (Operand.tmp 9), type := 27, pos := "law.go:137", after := #[], guard := none }) (v := ?_) rfl (by kernel_rfl) (by kernel_rfl) (by kernel_rfl) (fun _ _ _ h => h) (Or.inl ⟨by rfl, ?_⟩) (by assumption) ?_
          rotate_left 1
          · (intro W hSW; (try dsimp only at hSW); first | (go_simp; done) | (go_simp; with_reducible rfl))
          try simp only [Act.put, List.setIfInBounds_toArray, List.set_cons_zero, List.set_cons_succ]
          refine wpAnyH_take (i := 2) (oi := { dst := some 152, op := Op.load 27 (Operand.tmp 8), type := 27, pos := "law.go:137", after := #[], guard := none }) (v := ?_) rfl (by kernel_rfl) (by kernel_rfl) (by kernel_rfl) (fun _ _ _ h => h) (Or.inl ⟨by rfl, ?_⟩) (by assumption) ?_
          rotate_left 1
          · (intro W hSW; (try dsimp only at hSW); first | (go_simp; done) | (go_simp; with_reducible rfl))
          try simp only [Act.put, List.setIfInBounds_toArray, List.set_cons_zero, List.set_cons_succ]
          refine wpAnyH_take (i := 3) (oi := { dst := some 153, op := Op.load 27 (Operand.tmp 24), type := 27, pos := "law.go:137", after := #[], guard := none }) (v := ?_) rfl (by kernel_rfl) (by kernel_rfl) (by kernel_rfl) (fun _ _ _ h => h) (Or.inl ⟨by rfl, ?_⟩) (by assumption) ?_
          rotate_left 1
          · (intro W hSW; (try dsimp only at hSW); first | (go_simp; done) | (go_simp; with_reducible rfl))
          try simp only [Act.put, List.setIfInBounds_toArray, List.set_cons_zero, List.set_cons_succ]
          refine wpAnyH_ready (rs := [4, 9]) (by kernel_rfl) (by simp) ?_
          refine (AllReadyH.cons (o := { dst := some 154, op := Op.call { callee := Callee.value (Operand.func 27), args := #[Operand.tmp 152, Operand.tmp 153], argTypes := #[27, 27] }, type := 27, pos := "law.go:137", after := #[{ on := 2, ground := Ground.data }, { on := 3, ground := Ground.data }], guard := none }) rfl (fun K hK => ?_) (AllReadyH.cons (o := { dst := some 29, op := Op.alloc 27, type := 0, pos := "law.go:137", after := #[], guard := none }) rfl (fun K hK => ?_) AllReadyH.nil))
          · rw [if_pos (by rfl)]
            go_simp
            go_at_call 27
            refine (unionV (k : Nat) (k : Nat) vL1.out vL2.out hn5 hk3 (by rw [← EL1.out, ← EL2.out]; exact EL11.out) ZL1.out ZL2.out ZL11.out _ _ _ _ _ (Ha.out.grown hdr) (Hb.out.grown hdr)).mono ?_
            rintro e wc4 ⟨xr14, yr14, rfl, hrr14, gc4⟩
            have hgr4 := World.grownBy.trans hdr gc4
            go_wp2_with fail
            refine hK.out _ _ (HS.out _ hgr4) (fun hHeld => ?_)
            clear hK K
            try simp only [Act.put, List.setIfInBounds_toArray, List.set_cons_zero, List.set_cons_succ]
            refine wpAnyH_ready (rs := [5, 9]) (by kernel_rfl) (by simp) ?_
            refine (AllReadyH.cons (o := { dst := some 155, op := Op.call { callee := Callee.value (Operand.func 15), args := #[Operand.tmp 150, Operand.tmp 151, Operand.tmp 154], argTypes := #[3, 27, 27] }, type := 34, pos := "law.go:137", after := #[{ on := 0, ground := Ground.data }, { on := 1, ground := Ground.data }, { on := 4, ground := Ground.data }, { on := 4, ground := Ground.chain }], guard := none }) rfl (fun K hK => ?_) (AllReadyH.cons (o := { dst := some 29, op := Op.alloc 27, type := 0, pos := "law.go:137", after := #[], guard := none }) rfl (fun K hK => ?_) AllReadyH.nil))
            · rw [if_pos (by rfl)]
              go_simp
              go_at_call 15
              refine (joinS (k := 2) (j := k) k (by omega) vL4.out vL11.out hn1 hn5 (by omega) (by omega) hk1 hk3 (by omega) (by omega) (by rw [← EL4.out, ← EL11.out]; exact EL14.out) ZL4.out ZL11.out ZL14.out _ _ _ _ _ (Hb2.out.grown hgr4) hrr14).mono ?_
              rintro e wc5 ⟨xr15, yr15, rfl, hrr15, gc5⟩
              have hgr5 := World.grownBy.trans hgr4 gc5
              go_wp2_with fail
              refine hK.out _ _ (HS.out _ hgr5) (fun hHeld => ?_)
              clear hK K
              try simp only [Act.put, List.setIfInBounds_toArray, List.set_cons_zero, List.set_cons_succ]
              refine wpAnyH_take (i := 6) (oi := { dst := some 149, op := Op.move (Operand.tmp 155), type := 34, pos := "law.go:137", after := #[{ on := 5, ground := Ground.data }], guard := none }) (v := ?_) rfl (by kernel_rfl) (by kernel_rfl) (by kernel_rfl) (fun _ _ _ h => h) (Or.inl ⟨by rfl, ?_⟩) (by assumption) ?_
              rotate_left 1
              · (intro W hSW; (try dsimp only at hSW); first | (go_simp; done) | (go_simp; with_reducible rfl))
              try simp only [Act.put, List.setIfInBounds_toArray, List.set_cons_zero, List.set_cons_succ]
              refine wpAnyH_take (i := 7) (oi := { dst := some 156, op := Op.extract (Operand.tmp 149) 0, type := 27, pos := "law.go:137", after := #[{ on := 6, ground := Ground.data }], guard := none }) (v := ?_) rfl (by kernel_rfl) (by kernel_rfl) (by kernel_rfl) (fun _ _ _ h => h) (Or.inl ⟨by rfl, ?_⟩) (by assumption) ?_
              rotate_left 1
              · (intro W hSW; (try dsimp only at hSW); first | (go_simp; done) | (go_simp; with_reducible rfl))
              try simp only [Act.put, List.setIfInBounds_toArray, List.set_cons_zero, List.set_cons_succ]
              refine wpAnyH_take (i := 8) (oi := { dst := some 157, op := Op.extract (Operand.tmp 149) 1, type := 33, pos := "law.go:137", after := #[{ on := 6, ground := Ground.data }, { on := 10, ground := Ground.gcOnly Departure.lateStores }], guard := none }) (v := ?_) rfl (by kernel_rfl) (by kernel_rfl) (by kernel_rfl) (fun _ _ _ h => h) (Or.inl ⟨by rfl, ?_⟩) (by assumption) ?_
              rotate_left 1
              · (intro W hSW; (try dsimp only at hSW); first | (go_simp; done) | (go_simp; with_reducible rfl))
              try simp only [Act.put, List.setIfInBounds_toArray, List.set_cons_zero, List.set_cons_succ]
              refine wpAnyH_ready (rs := [9]) (by kernel_rfl) (by simp) ?_
              refine (AllReadyH.cons (o := { dst := some 29, op := Op.alloc 27, type := 0, pos := "law.go:137", after := #[], guard := none }) rfl (fun K hK => ?_) AllReadyH.nil)
              rw [if_pos (by rfl)]
              go_simp
              have hgaA : V29.grownBy (World.alloc wc5 (.cells #[.int .i64 0, .slice none 0 0] 27)) none := World.grownBy.trans hgr5 (World.grownBy_alloc wc5 (.cells #[.int .i64 0, .slice none 0 0] 27) none)
              have halA : wc5.grownBy (World.alloc wc5 (.cells #[.int .i64 0, .slice none 0 0] 27)) none := World.grownBy_alloc wc5 (.cells #[.int .i64 0, .slice none 0 0] 27) none
              have hz := Two.new wc5 (.int .i64 0) (.slice none 0 0) 27
              have hgeq : V29.heap.size ≤ wc5.heap.size := World.grownBy.size hgr5
              have hgeA : ∀ p, wc5.heap.size = p → V29.heap.size ≤ p := fun p e => by rw [← e]; exact hgeq
              clear hgeq
              obtain ⟨WA, hWA⟩ : ∃ z, World.alloc wc5 (.cells #[.int .i64 0, .slice none 0 0] 27) = z := ⟨_, rfl⟩
              rw [hWA] at hgaA halA hz ⊢
              clear hWA
              obtain ⟨pA, hpA⟩ : ∃ p, wc5.heap.size = p := ⟨_, rfl⟩
              replace hgeA := hgeA pA hpA
              rw [hpA] at hz ⊢
              have hpHi := Nat.le_of_eq hpA
              clear hpA
              refine hK.out _ _ (HS.out _ hgaA) (fun hHeld => ?_)
              clear hK K
              try simp only [Act.put, List.setIfInBounds_toArray, List.set_cons_zero, List.set_cons_succ]
              refine wpAnyH_ready (rs := [10]) (by kernel_rfl) (by simp) ?_
              refine (AllReadyH.cons (o := { dst := none, op := Op.store 27 (Operand.tmp 29) (Operand.tmp 156), type := 0, pos := "law.go:137", after := #[{ on := 9, ground := Ground.data }, { on := 7, ground := Ground.data }, { on := 5, ground := Ground.chain }, { on := 0, ground := Ground.phase }, { on := 1, ground := Ground.phase }, { on := 2, ground := Ground.phase }, { on := 3, ground := Ground.phase }, { on := 4, ground := Ground.phase }, { on := 5, ground := Ground.phase }, { on := 6, ground := Ground.phase }, { on := 7, ground := Ground.phase }, { on := 8, ground := Ground.textOnly Departure.lateStores }, { on := 9, ground := Ground.phase }], guard := none }) rfl (fun K hK => ?_) AllReadyH.nil)
              rw [if_pos (by rfl)]
              have hzz := hz
              obtain ⟨⟨x0, x1⟩, xf⟩ := hzz
              have xf0 := xf 0
              have xf1 := xf 1
              clear xf
              go_simp
              clear x0 x1 xf0 xf1
              have hst := two_set hz (.int .i64 ((k : Nat) : Int)) (.slice xr15 lL14 yr15)
              have hgaS := grown_own hgaA hst.2 (fun k hk => by cases hk; exact hgeA)
              have hrS := ((hrr15.grown halA).off hst.2 (fun x e => by cases e; exact .inr hpHi)).here
              replace hz := hst.1
              clear hst
              obtain ⟨WS, hWS⟩ : ∃ z, (World.setCell (World.setCell WA ⟨pA, 0, none⟩ (.int .i64 ((k : Nat) : Int))) ⟨pA, 1, none⟩ (.slice xr15 lL14 yr15)) = z := ⟨_, rfl⟩
              rw [hWS] at hgaS hz hrS ⊢
              clear hWS
              refine hK.out _ _ (HS.out _ hgaS) (fun hHeld => ?_)
              clear hK K
              try simp only [Act.put, List.setIfInBounds_toArray, List.set_cons_zero, List.set_cons_succ]
              refine wpAnyH_take (i := 11) (oi := { dst := some 30, op := Op.assign (Operand.tmp 157), type := 33, pos := "law.go:137", after := #[{ on := 8, ground := Ground.data }, { on := 10, ground := Ground.chain }, { on := 0, ground := Ground.phase }, { on := 1, ground := Ground.phase }, { on := 2, ground := Ground.phase }, { on := 3, ground := Ground.phase }, { on := 4, ground := Ground.phase }, { on := 5, ground := Ground.phase }, { on := 6, ground := Ground.phase }, { on := 7, ground := Ground.phase }, { on := 8, ground := Ground.phase }, { on := 9, ground := Ground.phase }, { on := 10, ground := Ground.phase }], guard := none }) (v := ?_) rfl (by kernel_rfl) (by kernel_rfl) (by kernel_rfl) (fun _ _ _ h => h) (Or.inl ⟨by rfl, ?_⟩) (by assumption) ?_
              rotate_left 1
              · (intro W hSW; (try dsimp only at hSW); first | (go_simp; done) | (go_simp; with_reducible rfl))
              try simp only [Act.put, List.setIfInBounds_toArray, List.set_cons_zero, List.set_cons_succ]
              refine wpAnyH_done (by kernel_rfl) ?_ _
              have hEND := hgaS
              clear hHeld
              go_wp2_with fail
              go_meet
              exact ⟨pA, xr15, yr15, rfl, rfl, hz.1, hrS, hEND⟩
            · rw [if_pos (by rfl)]
              go_simp
              have hgaA : V29.grownBy (World.alloc wc4 (.cells #[.int .i64 0, .slice none 0 0] 27)) none := World.grownBy.trans hgr4 (World.grownBy_alloc wc4 (.cells #[.int .i64 0, .slice none 0 0] 27) none)
              have halA : wc4.grownBy (World.alloc wc4 (.cells #[.int .i64 0, .slice none 0 0] 27)) none := World.grownBy_alloc wc4 (.cells #[.int .i64 0, .slice none 0 0] 27) none
              have hz := Two.new wc4 (.int .i64 0) (.slice none 0 0) 27
              have hgeq : V29.heap.size ≤ wc4.heap.size := World.grownBy.size hgr4
              have hgeA : ∀ p, wc4.heap.size = p → V29.heap.size ≤ p := fun p e => by rw [← e]; exact hgeq
              clear hgeq
              obtain ⟨WA, hWA⟩ : ∃ z, World.alloc wc4 (.cells #[.int .i64 0, .slice none 0 0] 27) = z := ⟨_, rfl⟩
              rw [hWA] at hgaA halA hz ⊢
              clear hWA
              obtain ⟨pA, hpA⟩ : ∃ p, wc4.heap.size = p := ⟨_, rfl⟩
              replace hgeA := hgeA pA hpA
              rw [hpA] at hz ⊢
              clear hpA
              refine hK.out _ _ (HS.out _ hgaA) (fun hHeld => ?_)
              clear hK K
              try simp only [Act.put, List.setIfInBounds_toArray, List.set_cons_zero, List.set_cons_succ]
              refine wpAnyH_ready (rs := [5]) (by kernel_rfl) (by simp) ?_
              refine (AllReadyH.cons (o := { dst := some 155, op := Op.call { callee := Callee.value (Operand.func 15), args := #[Operand.tmp 150, Operand.tmp 151, Operand.tmp 154], argTypes := #[3, 27, 27] }, type := 34, pos := "law.go:137", after := #[{ on := 0, ground := Ground.data }, { on := 1, ground := Ground.data }, { on := 4, ground := Ground.data }, { on := 4, ground := Ground.chain }], guard := none }) rfl (fun K hK => ?_) AllReadyH.nil)
              rw [if_pos (by rfl)]
              go_simp
              go_at_call 15
              have hpLo := hz.lt
              refine (joinS (k := 2) (j := k) k (by omega) vL4.out vL11.out hn1 hn5 (by omega) (by omega) hk1 hk3 (by omega) (by omega) (by rw [← EL4.out, ← EL11.out]; exact EL14.out) ZL4.out ZL11.out ZL14.out _ _ _ _ _ (Hb2.out.grown hgaA) (hrr14.grown halA)).mono ?_
              rintro e wc5 ⟨xr15, yr15, rfl, hrr15, gc5⟩
              have hgr5 := World.grownBy.trans hgaA gc5
              replace hz := hz.off gc5 (fun x e => by cases e)
              go_wp2_with fail
              refine hK.out _ _ (HS.out _ hgr5) (fun hHeld => ?_)
              clear hK K
              try simp only [Act.put, List.setIfInBounds_toArray, List.set_cons_zero, List.set_cons_succ]
              refine wpAnyH_take (i := 6) (oi := { dst := some 149, op := Op.move (Operand.tmp 155), type := 34, pos := "law.go:137", after := #[{ on := 5, ground := Ground.data }], guard := none }) (v := ?_) rfl (by kernel_rfl) (by kernel_rfl) (by kernel_rfl) (fun _ _ _ h => h) (Or.inl ⟨by rfl, ?_⟩) (by assumption) ?_
              rotate_left 1
              · (intro W hSW; (try dsimp only at hSW); first | (go_simp; done) | (go_simp; with_reducible rfl))
              try simp only [Act.put, List.setIfInBounds_toArray, List.set_cons_zero, List.set_cons_succ]
              refine wpAnyH_take (i := 7) (oi := { dst := some 156, op := Op.extract (Operand.tmp 149) 0, type := 27, pos := "law.go:137", after := #[{ on := 6, ground := Ground.data }], guard := none }) (v := ?_) rfl (by kernel_rfl) (by kernel_rfl) (by kernel_rfl) (fun _ _ _ h => h) (Or.inl ⟨by rfl, ?_⟩) (by assumption) ?_
              rotate_left 1
              · (intro W hSW; (try dsimp only at hSW); first | (go_simp; done) | (go_simp; with_reducible rfl))
              try simp only [Act.put, List.setIfInBounds_toArray, List.set_cons_zero, List.set_cons_succ]
              refine wpAnyH_take (i := 8) (oi := { dst := some 157, op := Op.extract (Operand.tmp 149) 1, type := 33, pos := "law.go:137", after := #[{ on := 6, ground := Ground.data }, { on := 10, ground := Ground.gcOnly Departure.lateStores }], guard := none }) (v := ?_) rfl (by kernel_rfl) (by kernel_rfl) (by kernel_rfl) (fun _ _ _ h => h) (Or.inl ⟨by rfl, ?_⟩) (by assumption) ?_
              rotate_left 1
              · (intro W hSW; (try dsimp only at hSW); first | (go_simp; done) | (go_simp; with_reducible rfl))
              try simp only [Act.put, List.setIfInBounds_toArray, List.set_cons_zero, List.set_cons_succ]
              refine wpAnyH_ready (rs := [10]) (by kernel_rfl) (by simp) ?_
              refine (AllReadyH.cons (o := { dst := none, op := Op.store 27 (Operand.tmp 29) (Operand.tmp 156), type := 0, pos := "law.go:137", after := #[{ on := 9, ground := Ground.data }, { on := 7, ground := Ground.data }, { on := 5, ground := Ground.chain }, { on := 0, ground := Ground.phase }, { on := 1, ground := Ground.phase }, { on := 2, ground := Ground.phase }, { on := 3, ground := Ground.phase }, { on := 4, ground := Ground.phase }, { on := 5, ground := Ground.phase }, { on := 6, ground := Ground.phase }, { on := 7, ground := Ground.phase }, { on := 8, ground := Ground.textOnly Departure.lateStores }, { on := 9, ground := Ground.phase }], guard := none }) rfl (fun K hK => ?_) AllReadyH.nil)
              rw [if_pos (by rfl)]
              have hzz := hz
              obtain ⟨⟨x0, x1⟩, xf⟩ := hzz
              have xf0 := xf 0
              have xf1 := xf 1
              clear xf
              go_simp
              clear x0 x1 xf0 xf1
              have hst := two_set hz (.int .i64 ((k : Nat) : Int)) (.slice xr15 lL14 yr15)
              have hgaS := grown_own hgr5 hst.2 (fun k hk => by cases hk; exact hgeA)
              have hrS := (hrr15.off hst.2 (fun x e => by cases e; exact .inl hpLo)).here
              replace hz := hst.1
              clear hst
              obtain ⟨WS, hWS⟩ : ∃ z, (World.setCell (World.setCell wc5 ⟨pA, 0, none⟩ (.int .i64 ((k : Nat) : Int))) ⟨pA, 1, none⟩ (.slice xr15 lL14 yr15)) = z := ⟨_, rfl⟩
              rw [hWS] at hgaS hz hrS ⊢
              clear hWS
              refine hK.out _ _ (HS.out _ hgaS) (fun hHeld => ?_)
              clear hK K
              try simp only [Act.put, List.setIfInBounds_toArray, List.set_cons_zero, List.set_cons_succ]
              refine wpAnyH_take (i := 11) (oi := { dst := some 30, op := Op.assign (Operand.tmp 157), type := 33, pos := "law.go:137", after := #[{ on := 8, ground := Ground.data }, { on := 10, ground := Ground.chain }, { on := 0, ground := Ground.phase }, { on := 1, ground := Ground.phase }, { on := 2, ground := Ground.phase }, { on := 3, ground := Ground.phase }, { on := 4, ground := Ground.phase }, { on := 5, ground := Ground.phase }, { on := 6, ground := Ground.phase }, { on := 7, ground := Ground.phase }, { on := 8, ground := Ground.phase }, { on := 9, ground := Ground.phase }, { on := 10, ground := Ground.phase }], guard := none }) (v := ?_) rfl (by kernel_rfl) (by kernel_rfl) (by kernel_rfl) (fun _ _ _ h => h) (Or.inl ⟨by rfl, ?_⟩) (by assumption) ?_
              rotate_left 1
              · (intro W hSW; (try dsimp only at hSW); first | (go_simp; done) | (go_simp; with_reducible rfl))
              try simp only [Act.put, List.setIfInBounds_toArray, List.set_cons_zero, List.set_cons_succ]
              refine wpAnyH_done (by kernel_rfl) ?_ _
              have hEND := hgaS
              clear hHeld
              go_wp2_with fail
              go_meet
              exact ⟨pA, xr15, yr15, rfl, rfl, hz.1, hrS, hEND⟩
          · rw [if_pos (by rfl)]
            go_simp
            have hgaA : V29.grownBy ((World.alloc V29 (.cells #[.int .i64 0, .slice none 0 0] 27)).drew) none := World.grownBy.trans (World.grownBy_alloc V29 (.cells #[.int .i64 0, .slice none 0 0] 27) none) (⟨rfl, rfl, rfl, Nat.le_refl _, fun _ _ _ => rfl⟩ : (World.alloc V29 (.cells #[.int .i64 0, .slice none 0 0] 27)).grownBy (World.alloc V29 (.cells #[.int .i64 0, .slice none 0 0] 27)).drew none)
            have halA : V29.drew.grownBy ((World.alloc V29 (.cells #[.int .i64 0, .slice none 0 0] 27)).drew) none := World.grownBy_alloc V29.drew (.cells #[.int .i64 0, .slice none 0 0] 27) none
            have hz := (Two.new V29 (.int .i64 0) (.slice none 0 0) 27).off (⟨rfl, rfl, rfl, Nat.le_refl _, fun _ _ _ => rfl⟩ : (World.alloc V29 (.cells #[.int .i64 0, .slice none 0 0] 27)).grownBy (World.alloc V29 (.cells #[.int .i64 0, .slice none 0 0] 27)).drew none) (fun x e => by cases e)
            have hgeq : V29.heap.size ≤ V29.heap.size := Nat.le_refl _
            have hgeA : ∀ p, V29.heap.size = p → V29.heap.size ≤ p := fun p e => by rw [← e]; exact hgeq
            clear hgeq
            obtain ⟨WA, hWA⟩ : ∃ z, (World.alloc V29 (.cells #[.int .i64 0, .slice none 0 0] 27)).drew = z := ⟨_, rfl⟩
            rw [hWA] at hgaA halA hz ⊢
            clear hWA
            obtain ⟨pA, hpA⟩ : ∃ p, V29.heap.size = p := ⟨_, rfl⟩
            replace hgeA := hgeA pA hpA
            rw [hpA] at hz ⊢
            clear hpA
            refine hK.out _ _ (HS.out _ hgaA) (fun hHeld => ?_)
            clear hK K
            try simp only [Act.put, List.setIfInBounds_toArray, List.set_cons_zero, List.set_cons_succ]
            refine wpAnyH_ready (rs := [4]) (by kernel_rfl) (by simp) ?_
            refine (AllReadyH.cons (o := { dst := some 154, op := Op.call { callee := Callee.value (Operand.func 27), args := #[Operand.tmp 152, Operand.tmp 153], argTypes := #[27, 27] }, type := 27, pos := "law.go:137", after := #[{ on := 2, ground := Ground.data }, { on := 3, ground := Ground.data }], guard := none }) rfl (fun K hK => ?_) AllReadyH.nil)
            rw [if_pos (by rfl)]
            go_simp
            go_at_call 27
            refine (unionV (k : Nat) (k : Nat) vL1.out vL2.out hn5 hk3 (by rw [← EL1.out, ← EL2.out]; exact EL11.out) ZL1.out ZL2.out ZL11.out _ _ _ _ _ (Ha.out.grown hgaA) (Hb.out.grown hgaA)).mono ?_
            rintro e wc4 ⟨xr14, yr14, rfl, hrr14, gc4⟩
            have hgr4 := World.grownBy.trans hgaA gc4
            replace hz := hz.off gc4 (fun x e => by cases e)
            go_wp2_with fail
            refine hK.out _ _ (HS.out _ hgr4) (fun hHeld => ?_)
            clear hK K
            try simp only [Act.put, List.setIfInBounds_toArray, List.set_cons_zero, List.set_cons_succ]
            refine wpAnyH_ready (rs := [5]) (by kernel_rfl) (by simp) ?_
            refine (AllReadyH.cons (o := { dst := some 155, op := Op.call { callee := Callee.value (Operand.func 15), args := #[Operand.tmp 150, Operand.tmp 151, Operand.tmp 154], argTypes := #[3, 27, 27] }, type := 34, pos := "law.go:137", after := #[{ on := 0, ground := Ground.data }, { on := 1, ground := Ground.data }, { on := 4, ground := Ground.data }, { on := 4, ground := Ground.chain }], guard := none }) rfl (fun K hK => ?_) AllReadyH.nil)
            rw [if_pos (by rfl)]
            go_simp
            go_at_call 15
            have hpLo := hz.lt
            refine (joinS (k := 2) (j := k) k (by omega) vL4.out vL11.out hn1 hn5 (by omega) (by omega) hk1 hk3 (by omega) (by omega) (by rw [← EL4.out, ← EL11.out]; exact EL14.out) ZL4.out ZL11.out ZL14.out _ _ _ _ _ (Hb2.out.grown hgr4) hrr14).mono ?_
            rintro e wc5 ⟨xr15, yr15, rfl, hrr15, gc5⟩
            have hgr5 := World.grownBy.trans hgr4 gc5
            replace hz := hz.off gc5 (fun x e => by cases e)
            go_wp2_with fail
            refine hK.out _ _ (HS.out _ hgr5) (fun hHeld => ?_)
            clear hK K
            try simp only [Act.put, List.setIfInBounds_toArray, List.set_cons_zero, List.set_cons_succ]
            refine wpAnyH_take (i := 6) (oi := { dst := some 149, op := Op.move (Operand.tmp 155), type := 34, pos := "law.go:137", after := #[{ on := 5, ground := Ground.data }], guard := none }) (v := ?_) rfl (by kernel_rfl) (by kernel_rfl) (by kernel_rfl) (fun _ _ _ h => h) (Or.inl ⟨by rfl, ?_⟩) (by assumption) ?_
            rotate_left 1
            · (intro W hSW; (try dsimp only at hSW); first | (go_simp; done) | (go_simp; with_reducible rfl))
            try simp only [Act.put, List.setIfInBounds_toArray, List.set_cons_zero, List.set_cons_succ]
            refine wpAnyH_take (i := 7) (oi := { dst := some 156, op := Op.extract (Operand.tmp 149) 0, type := 27, pos := "law.go:137", after := #[{ on := 6, ground := Ground.data }], guard := none }) (v := ?_) rfl (by kernel_rfl) (by kernel_rfl) (by kernel_rfl) (fun _ _ _ h => h) (Or.inl ⟨by rfl, ?_⟩) (by assumption) ?_
            rotate_left 1
            · (intro W hSW; (try dsimp only at hSW); first | (go_simp; done) | (go_simp; with_reducible rfl))
            try simp only [Act.put, List.setIfInBounds_toArray, List.set_cons_zero, List.set_cons_succ]
            refine wpAnyH_take (i := 8) (oi := { dst := some 157, op := Op.extract (Operand.tmp 149) 1, type := 33, pos := "law.go:137", after := #[{ on := 6, ground := Ground.data }, { on := 10, ground := Ground.gcOnly Departure.lateStores }], guard := none }) (v := ?_) rfl (by kernel_rfl) (by kernel_rfl) (by kernel_rfl) (fun _ _ _ h => h) (Or.inl ⟨by rfl, ?_⟩) (by assumption) ?_
            rotate_left 1
            · (intro W hSW; (try dsimp only at hSW); first | (go_simp; done) | (go_simp; with_reducible rfl))
            try simp only [Act.put, List.setIfInBounds_toArray, List.set_cons_zero, List.set_cons_succ]
            refine wpAnyH_ready (rs := [10]) (by kernel_rfl) (by simp) ?_
            refine (AllReadyH.cons (o := { dst := none, op := Op.store 27 (Operand.tmp 29) (Operand.tmp 156), type := 0, pos := "law.go:137", after := #[{ on := 9, ground := Ground.data }, { on := 7, ground := Ground.data }, { on := 5, ground := Ground.chain }, { on := 0, ground := Ground.phase }, { on := 1, ground := Ground.phase }, { on := 2, ground := Ground.phase }, { on := 3, ground := Ground.phase }, { on := 4, ground := Ground.phase }, { on := 5, ground := Ground.phase }, { on := 6, ground := Ground.phase }, { on := 7, ground := Ground.phase }, { on := 8, ground := Ground.textOnly Departure.lateStores }, { on := 9, ground := Ground.phase }], guard := none }) rfl (fun K hK => ?_) AllReadyH.nil)
            rw [if_pos (by rfl)]
            have hzz := hz
            obtain ⟨⟨x0, x1⟩, xf⟩ := hzz
            have xf0 := xf 0
            have xf1 := xf 1
            clear xf
            go_simp
            clear x0 x1 xf0 xf1
            have hst := two_set hz (.int .i64 ((k : Nat) : Int)) (.slice xr15 lL14 yr15)
            have hgaS := grown_own hgr5 hst.2 (fun k hk => by cases hk; exact hgeA)
            have hrS := (hrr15.off hst.2 (fun x e => by cases e; exact .inl hpLo)).here
            replace hz := hst.1
            clear hst
            obtain ⟨WS, hWS⟩ : ∃ z, (World.setCell (World.setCell wc5 ⟨pA, 0, none⟩ (.int .i64 ((k : Nat) : Int))) ⟨pA, 1, none⟩ (.slice xr15 lL14 yr15)) = z := ⟨_, rfl⟩
            rw [hWS] at hgaS hz hrS ⊢
            clear hWS
            refine hK.out _ _ (HS.out _ hgaS) (fun hHeld => ?_)
            clear hK K
            try simp only [Act.put, List.setIfInBounds_toArray, List.set_cons_zero, List.set_cons_succ]
            refine wpAnyH_take (i := 11) (oi := { dst := some 30, op := Op.assign (Operand.tmp 157), type := 33, pos := "law.go:137", after := #[{ on := 8, ground := Ground.data }, { on := 10, ground := Ground.chain }, { on := 0, ground := Ground.phase }, { on := 1, ground := Ground.phase }, { on := 2, ground := Ground.phase }, { on := 3, ground := Ground.phase }, { on := 4, ground := Ground.phase }, { on := 5, ground := Ground.phase }, { on := 6, ground := Ground.phase }, { on := 7, ground := Ground.phase }, { on := 8, ground := Ground.phase }, { on := 9, ground := Ground.phase }, { on := 10, ground := Ground.phase }], guard := none }) (v := ?_) rfl (by kernel_rfl) (by kernel_rfl) (by kernel_rfl) (fun _ _ _ h => h) (Or.inl ⟨by rfl, ?_⟩) (by assumption) ?_
            rotate_left 1
            · (intro W hSW; (try dsimp only at hSW); first | (go_simp; done) | (go_simp; with_reducible rfl))
            try simp only [Act.put, List.setIfInBounds_toArray, List.set_cons_zero, List.set_cons_succ]
            refine wpAnyH_done (by kernel_rfl) ?_ _
            have hEND := hgaS
            clear hHeld
            go_wp2_with fail
            go_meet
            exact ⟨pA, xr15, yr15, rfl, rfl, hz.1, hrS, hEND⟩
      case rest =>
        as_aux_lemma =>
          obtain ⟨bB29, xb29x, yb29x, rfl, rfl, hbx, hr, g⟩ := hcut
          obtain ⟨V30, rfl⟩ : ∃ z, z = wc := ⟨_, rfl⟩
          replace Ha := Lib.hid (Ha.out.grown g)
          replace Hb := Lib.hid (Hb.out.grown g)
          replace Hc := Lib.hid (Hc.out.grown g)
          replace Hb2 := Lib.hid (Hb2.out.grown g)
          replace Hcj := Lib.hid (Hcj.out.grown g)
          replace Hr1 := Lib.hid (Hr1.out.grown g)
          replace Hr2 := Lib.hid (Hr2.out.grown g)
          replace Hr3 := Lib.hid (Hr3.out.grown g)
          replace Hr4 := Lib.hid (Hr4.out.grown g)
          replace Hr6 := Lib.hid (Hr6.out.grown g)
          replace Hr7 := Lib.hid (Hr7.out.grown g)
          replace Hr8 := Lib.hid (Hr8.out.grown g)
          replace Hb25x := Lib.hid (Hb25x.out.grown g)
          replace Hr13 := Lib.hid (Hr13.out.grown g)
          replace HB8 := Lib.hid (And.intro (World.grownBy.cell g HB8.out.1 (by simp)) (World.grownBy.cell g HB8.out.2 (by simp)))
          replace HB9 := Lib.hid (And.intro (World.grownBy.cell g HB9.out.1 (by simp)) (World.grownBy.cell g HB9.out.2 (by simp)))
          replace HB10 := Lib.hid (And.intro (World.grownBy.cell g HB10.out.1 (by simp)) (World.grownBy.cell g HB10.out.2 (by simp)))
          replace HB11 := Lib.hid (And.intro (World.grownBy.cell g HB11.out.1 (by simp)) (World.grownBy.cell g HB11.out.2 (by simp)))
          replace HB13 := Lib.hid (And.intro (World.grownBy.cell g HB13.out.1 (by simp)) (World.grownBy.cell g HB13.out.2 (by simp)))
          replace HB15 := Lib.hid (And.intro (World.grownBy.cell g HB15.out.1 (by simp)) (World.grownBy.cell g HB15.out.2 (by simp)))
          replace HB17 := Lib.hid (And.intro (World.grownBy.cell g HB17.out.1 (by simp)) (World.grownBy.cell g HB17.out.2 (by simp)))
          replace HB19 := Lib.hid (And.intro (World.grownBy.cell g HB19.out.1 (by simp)) (World.grownBy.cell g HB19.out.2 (by simp)))
          replace HB20 := Lib.hid (And.intro (World.grownBy.cell g HB20.out.1 (by simp)) (World.grownBy.cell g HB20.out.2 (by simp)))
          replace HB22 := Lib.hid (And.intro (World.grownBy.cell g HB22.out.1 (by simp)) (World.grownBy.cell g HB22.out.2 (by simp)))
          replace HB24 := Lib.hid (And.intro (World.grownBy.cell g HB24.out.1 (by simp)) (World.grownBy.cell g HB24.out.2 (by simp)))
          replace HB25 := Lib.hid (And.intro (World.grownBy.cell g HB25.out.1 (by simp)) (World.grownBy.cell g HB25.out.2 (by simp)))
          replace HB27 := Lib.hid (And.intro (World.grownBy.cell g HB27.out.1 (by simp)) (World.grownBy.cell g HB27.out.2 (by simp)))
          replace HRB := Lib.hid (And.intro (World.grownBy.cell g HRB.out.1 (by simp)) (And.intro (World.grownBy.cell g HRB.out.2.1 (by simp)) (And.intro (World.grownBy.cell g HRB.out.2.2.1 (by simp)) (And.intro (World.grownBy.cell g HRB.out.2.2.2.1 (by simp)) (World.grownBy.cell g HRB.out.2.2.2.2 (by simp))))))
          replace HR := Lib.hid (HR.out.grown g)
          replace HG := Lib.hid (World.grownBy.trans HG.out g)
          clear g
          have Hb29x := Lib.hid hr
          have HB29 := Lib.hid hbx
          clear hr hbx
          have qB80 := HB8.out.1
          have qB81 := HB8.out.2
          have qB90 := HB9.out.1
          have qB91 := HB9.out.2
          have qB100 := HB10.out.1
          have qB101 := HB10.out.2
          have qB110 := HB11.out.1
          have qB111 := HB11.out.2
          have qB130 := HB13.out.1
          have qB131 := HB13.out.2
          have qB150 := HB15.out.1
          have qB151 := HB15.out.2
          have qB170 := HB17.out.1
          have qB171 := HB17.out.2
          have qB190 := HB19.out.1
          have qB191 := HB19.out.2
          have qB200 := HB20.out.1
          have qB201 := HB20.out.2
          have qB220 := HB22.out.1
          have qB221 := HB22.out.2
          have qB240 := HB24.out.1
          have qB241 := HB24.out.2
          have qB250 := HB25.out.1
          have qB251 := HB25.out.2
          have qB270 := HB27.out.1
          have qB271 := HB27.out.2
          have qB290 := HB29.out.1
          have qB291 := HB29.out.2
          have qr0 := HRB.out.1
          have qr1 := HRB.out.2.1
          have qr2 := HRB.out.2.2.1
          have qr3 := HRB.out.2.2.2.1
          have qr4 := HRB.out.2.2.2.2
          go_upto_region 21 with fail
          clear qB80 qB81 qB90 qB91 qB100 qB101 qB110 qB111 qB130 qB131 qB150 qB151 qB170 qB171 qB190 qB191 qB200 qB201 qB220 qB221 qB240 qB241 qB250 qB251 qB270 qB271 qB290 qB291 qr0 qr1 qr2 qr3 qr4
          have qB80 := HB8.out.1
          have qB81 := HB8.out.2
          have qB90 := HB9.out.1
          have qB91 := HB9.out.2
          have qB100 := HB10.out.1
          have qB101 := HB10.out.2
          have qB110 := HB11.out.1
          have qB111 := HB11.out.2
          have qB130 := HB13.out.1
          have qB131 := HB13.out.2
          have qB150 := HB15.out.1
          have qB151 := HB15.out.2
          have qB170 := HB17.out.1
          have qB171 := HB17.out.2
          have qB190 := HB19.out.1
          have qB191 := HB19.out.2
          have qB200 := HB20.out.1
          have qB201 := HB20.out.2
          have qB220 := HB22.out.1
          have qB221 := HB22.out.2
          have qB240 := HB24.out.1
          have qB241 := HB24.out.2
          have qB250 := HB25.out.1
          have qB251 := HB25.out.2
          have qB270 := HB27.out.1
          have qB271 := HB27.out.2
          have qB290 := HB29.out.1
          have qB291 := HB29.out.2
          have qr0 := HRB.out.1
          have qr1 := HRB.out.2.1
          have qr2 := HRB.out.2.2.1
          have qr3 := HRB.out.2.2.2.1
          have qr4 := HRB.out.2.2.2.2
          go_wp2_with fail
          clear qB80 qB81 qB90 qB91 qB100 qB101 qB110 qB111 qB130 qB131 qB150 qB151 qB170 qB171 qB190 qB191 qB200 qB201 qB220 qB221 qB240 qB241 qB250 qB251 qB270 qB271 qB290 qB291 qr0 qr1 qr2 qr3 qr4
          refine (joinV (k := 2) (j := k) k (by omega) vL4.out vL1.out hn1 hn5 (by omega) (by omega) hk1 hk3 (by omega) (by omega) (by rw [← EL4.out, ← EL1.out]; exact EL15.out) ZL4.out ZL1.out ZL15.out _ _ _ _ _ Hb2.out Ha.out).mono ?_
          rintro e V31 ⟨xr16, yr16, rfl, hr, g⟩
          replace Ha := Lib.hid (Ha.out.grown g)
          replace Hb := Lib.hid (Hb.out.grown g)
          replace Hc := Lib.hid (Hc.out.grown g)
          replace Hb2 := Lib.hid (Hb2.out.grown g)
          replace Hcj := Lib.hid (Hcj.out.grown g)
          replace Hr1 := Lib.hid (Hr1.out.grown g)
          replace Hr2 := Lib.hid (Hr2.out.grown g)
          replace Hr3 := Lib.hid (Hr3.out.grown g)
          replace Hr4 := Lib.hid (Hr4.out.grown g)
          replace Hr6 := Lib.hid (Hr6.out.grown g)
          replace Hr7 := Lib.hid (Hr7.out.grown g)
          replace Hr8 := Lib.hid (Hr8.out.grown g)
          replace Hb25x := Lib.hid (Hb25x.out.grown g)
          replace Hr13 := Lib.hid (Hr13.out.grown g)
          replace Hb29x := Lib.hid (Hb29x.out.grown g)
          replace HB8 := Lib.hid (And.intro (World.grownBy.cell g HB8.out.1 (by simp)) (World.grownBy.cell g HB8.out.2 (by simp)))
          replace HB9 := Lib.hid (And.intro (World.grownBy.cell g HB9.out.1 (by simp)) (World.grownBy.cell g HB9.out.2 (by simp)))
          replace HB10 := Lib.hid (And.intro (World.grownBy.cell g HB10.out.1 (by simp)) (World.grownBy.cell g HB10.out.2 (by simp)))
          replace HB11 := Lib.hid (And.intro (World.grownBy.cell g HB11.out.1 (by simp)) (World.grownBy.cell g HB11.out.2 (by simp)))
          replace HB13 := Lib.hid (And.intro (World.grownBy.cell g HB13.out.1 (by simp)) (World.grownBy.cell g HB13.out.2 (by simp)))
          replace HB15 := Lib.hid (And.intro (World.grownBy.cell g HB15.out.1 (by simp)) (World.grownBy.cell g HB15.out.2 (by simp)))
          replace HB17 := Lib.hid (And.intro (World.grownBy.cell g HB17.out.1 (by simp)) (World.grownBy.cell g HB17.out.2 (by simp)))
          replace HB19 := Lib.hid (And.intro (World.grownBy.cell g HB19.out.1 (by simp)) (World.grownBy.cell g HB19.out.2 (by simp)))
          replace HB20 := Lib.hid (And.intro (World.grownBy.cell g HB20.out.1 (by simp)) (World.grownBy.cell g HB20.out.2 (by simp)))
          replace HB22 := Lib.hid (And.intro (World.grownBy.cell g HB22.out.1 (by simp)) (World.grownBy.cell g HB22.out.2 (by simp)))
          replace HB24 := Lib.hid (And.intro (World.grownBy.cell g HB24.out.1 (by simp)) (World.grownBy.cell g HB24.out.2 (by simp)))
          replace HB25 := Lib.hid (And.intro (World.grownBy.cell g HB25.out.1 (by simp)) (World.grownBy.cell g HB25.out.2 (by simp)))
          replace HB27 := Lib.hid (And.intro (World.grownBy.cell g HB27.out.1 (by simp)) (World.grownBy.cell g HB27.out.2 (by simp)))
          replace HB29 := Lib.hid (And.intro (World.grownBy.cell g HB29.out.1 (by simp)) (World.grownBy.cell g HB29.out.2 (by simp)))
          replace HRB := Lib.hid (And.intro (World.grownBy.cell g HRB.out.1 (by simp)) (And.intro (World.grownBy.cell g HRB.out.2.1 (by simp)) (And.intro (World.grownBy.cell g HRB.out.2.2.1 (by simp)) (And.intro (World.grownBy.cell g HRB.out.2.2.2.1 (by simp)) (World.grownBy.cell g HRB.out.2.2.2.2 (by simp))))))
          replace HR := Lib.hid (HR.out.grown g)
          replace HG := Lib.hid (World.grownBy.trans HG.out g)
          clear g
          have Hr16 := Lib.hid hr
          clear hr
          have qB80 := HB8.out.1
          have qB81 := HB8.out.2
          have qB90 := HB9.out.1
          have qB91 := HB9.out.2
          have qB100 := HB10.out.1
          have qB101 := HB10.out.2
          have qB110 := HB11.out.1
          have qB111 := HB11.out.2
          have qB130 := HB13.out.1
          have qB131 := HB13.out.2
          have qB150 := HB15.out.1
          have qB151 := HB15.out.2
          have qB170 := HB17.out.1
          have qB171 := HB17.out.2
          have qB190 := HB19.out.1
          have qB191 := HB19.out.2
          have qB200 := HB20.out.1
          have qB201 := HB20.out.2
          have qB220 := HB22.out.1
          have qB221 := HB22.out.2
          have qB240 := HB24.out.1
          have qB241 := HB24.out.2
          have qB250 := HB25.out.1
          have qB251 := HB25.out.2
          have qB270 := HB27.out.1
          have qB271 := HB27.out.2
          have qB290 := HB29.out.1
          have qB291 := HB29.out.2
          have qr0 := HRB.out.1
          have qr1 := HRB.out.2.1
          have qr2 := HRB.out.2.2.1
          have qr3 := HRB.out.2.2.2.1
          have qr4 := HRB.out.2.2.2.2
          go_upto_region 22 with fail
          clear qB80 qB81 qB90 qB91 qB100 qB101 qB110 qB111 qB130 qB131 qB150 qB151 qB170 qB171 qB190 qB191 qB200 qB201 qB220 qB221 qB240 qB241 qB250 qB251 qB270 qB271 qB290 qB291 qr0 qr1 qr2 qr3 qr4
          have hbx := one_cells V31 (.int .i64 (k : Nat)) (.slice xr16 lL15 yr16) 27
          have g := World.grownBy_alloc V31 (.cells #[.int .i64 (k : Nat), .slice xr16 lL15 yr16] 27) none
          obtain ⟨V32, hV32⟩ : ∃ z, World.alloc V31 (.cells #[.int .i64 (k : Nat), .slice xr16 lL15 yr16] 27) = z := ⟨_, rfl⟩
          rw [hV32] at g hbx ⊢
          clear hV32
          obtain ⟨bB31, hb⟩ : ∃ b, V31.heap.size = b := ⟨_, rfl⟩
          rw [hb] at hbx ⊢
          clear hb
          replace Ha := Lib.hid (Ha.out.grown g)
          replace Hb := Lib.hid (Hb.out.grown g)
          replace Hc := Lib.hid (Hc.out.grown g)
          replace Hb2 := Lib.hid (Hb2.out.grown g)
          replace Hcj := Lib.hid (Hcj.out.grown g)
          replace Hr1 := Lib.hid (Hr1.out.grown g)
          replace Hr2 := Lib.hid (Hr2.out.grown g)
          replace Hr3 := Lib.hid (Hr3.out.grown g)
          replace Hr4 := Lib.hid (Hr4.out.grown g)
          replace Hr6 := Lib.hid (Hr6.out.grown g)
          replace Hr7 := Lib.hid (Hr7.out.grown g)
          replace Hr8 := Lib.hid (Hr8.out.grown g)
          replace Hb25x := Lib.hid (Hb25x.out.grown g)
          replace Hr13 := Lib.hid (Hr13.out.grown g)
          replace Hb29x := Lib.hid (Hb29x.out.grown g)
          replace Hr16 := Lib.hid (Hr16.out.grown g)
          replace HB8 := Lib.hid (And.intro (World.grownBy.cell g HB8.out.1 (by simp)) (World.grownBy.cell g HB8.out.2 (by simp)))
          replace HB9 := Lib.hid (And.intro (World.grownBy.cell g HB9.out.1 (by simp)) (World.grownBy.cell g HB9.out.2 (by simp)))
          replace HB10 := Lib.hid (And.intro (World.grownBy.cell g HB10.out.1 (by simp)) (World.grownBy.cell g HB10.out.2 (by simp)))
          replace HB11 := Lib.hid (And.intro (World.grownBy.cell g HB11.out.1 (by simp)) (World.grownBy.cell g HB11.out.2 (by simp)))
          replace HB13 := Lib.hid (And.intro (World.grownBy.cell g HB13.out.1 (by simp)) (World.grownBy.cell g HB13.out.2 (by simp)))
          replace HB15 := Lib.hid (And.intro (World.grownBy.cell g HB15.out.1 (by simp)) (World.grownBy.cell g HB15.out.2 (by simp)))
          replace HB17 := Lib.hid (And.intro (World.grownBy.cell g HB17.out.1 (by simp)) (World.grownBy.cell g HB17.out.2 (by simp)))
          replace HB19 := Lib.hid (And.intro (World.grownBy.cell g HB19.out.1 (by simp)) (World.grownBy.cell g HB19.out.2 (by simp)))
          replace HB20 := Lib.hid (And.intro (World.grownBy.cell g HB20.out.1 (by simp)) (World.grownBy.cell g HB20.out.2 (by simp)))
          replace HB22 := Lib.hid (And.intro (World.grownBy.cell g HB22.out.1 (by simp)) (World.grownBy.cell g HB22.out.2 (by simp)))
          replace HB24 := Lib.hid (And.intro (World.grownBy.cell g HB24.out.1 (by simp)) (World.grownBy.cell g HB24.out.2 (by simp)))
          replace HB25 := Lib.hid (And.intro (World.grownBy.cell g HB25.out.1 (by simp)) (World.grownBy.cell g HB25.out.2 (by simp)))
          replace HB27 := Lib.hid (And.intro (World.grownBy.cell g HB27.out.1 (by simp)) (World.grownBy.cell g HB27.out.2 (by simp)))
          replace HB29 := Lib.hid (And.intro (World.grownBy.cell g HB29.out.1 (by simp)) (World.grownBy.cell g HB29.out.2 (by simp)))
          replace HRB := Lib.hid (And.intro (World.grownBy.cell g HRB.out.1 (by simp)) (And.intro (World.grownBy.cell g HRB.out.2.1 (by simp)) (And.intro (World.grownBy.cell g HRB.out.2.2.1 (by simp)) (And.intro (World.grownBy.cell g HRB.out.2.2.2.1 (by simp)) (World.grownBy.cell g HRB.out.2.2.2.2 (by simp))))))
          replace HR := Lib.hid (HR.out.grown g)
          replace HG := Lib.hid (World.grownBy.trans HG.out g)
          clear g
          have HB31 := Lib.hid (And.intro hbx.2.1 hbx.2.2.1)
          clear hbx
          have qB80 := HB8.out.1
          have qB81 := HB8.out.2
          have qB90 := HB9.out.1
          have qB91 := HB9.out.2
          have qB100 := HB10.out.1
          have qB101 := HB10.out.2
          have qB110 := HB11.out.1
          have qB111 := HB11.out.2
          have qB130 := HB13.out.1
          have qB131 := HB13.out.2
          have qB150 := HB15.out.1
          have qB151 := HB15.out.2
          have qB170 := HB17.out.1
          have qB171 := HB17.out.2
          have qB190 := HB19.out.1
          have qB191 := HB19.out.2
          have qB200 := HB20.out.1
          have qB201 := HB20.out.2
          have qB220 := HB22.out.1
          have qB221 := HB22.out.2
          have qB240 := HB24.out.1
          have qB241 := HB24.out.2
          have qB250 := HB25.out.1
          have qB251 := HB25.out.2
          have qB270 := HB27.out.1
          have qB271 := HB27.out.2
          have qB290 := HB29.out.1
          have qB291 := HB29.out.2
          have qB310 := HB31.out.1
          have qB311 := HB31.out.2
          have qr0 := HRB.out.1
          have qr1 := HRB.out.2.1
          have qr2 := HRB.out.2.2.1
          have qr3 := HRB.out.2.2.2.1
          have qr4 := HRB.out.2.2.2.2
          go_wp2_with fail
          clear qB80 qB81 qB90 qB91 qB100 qB101 qB110 qB111 qB130 qB131 qB150 qB151 qB170 qB171 qB190 qB191 qB200 qB201 qB220 qB221 qB240 qB241 qB250 qB251 qB270 qB271 qB290 qB291 qB310 qB311 qr0 qr1 qr2 qr3 qr4
          refine (joinV (k := 2) (j := k) k (by omega) vL4.out vL2.out hn1 hn5 (by omega) (by omega) hk1 hk3 (by omega) (by omega) (by rw [← EL4.out, ← EL2.out]; exact EL16.out) ZL4.out ZL2.out ZL16.out _ _ _ _ _ Hb2.out Hb.out).mono ?_
          rintro e V33 ⟨xr17, yr17, rfl, hr, g⟩
          replace Ha := Lib.hid (Ha.out.grown g)
          replace Hb := Lib.hid (Hb.out.grown g)
          replace Hc := Lib.hid (Hc.out.grown g)
          replace Hb2 := Lib.hid (Hb2.out.grown g)
          replace Hcj := Lib.hid (Hcj.out.grown g)
          replace Hr1 := Lib.hid (Hr1.out.grown g)
          replace Hr2 := Lib.hid (Hr2.out.grown g)
          replace Hr3 := Lib.hid (Hr3.out.grown g)
          replace Hr4 := Lib.hid (Hr4.out.grown g)
          replace Hr6 := Lib.hid (Hr6.out.grown g)
          replace Hr7 := Lib.hid (Hr7.out.grown g)
          replace Hr8 := Lib.hid (Hr8.out.grown g)
          replace Hb25x := Lib.hid (Hb25x.out.grown g)
          replace Hr13 := Lib.hid (Hr13.out.grown g)
          replace Hb29x := Lib.hid (Hb29x.out.grown g)
          replace Hr16 := Lib.hid (Hr16.out.grown g)
          replace HB8 := Lib.hid (And.intro (World.grownBy.cell g HB8.out.1 (by simp)) (World.grownBy.cell g HB8.out.2 (by simp)))
          replace HB9 := Lib.hid (And.intro (World.grownBy.cell g HB9.out.1 (by simp)) (World.grownBy.cell g HB9.out.2 (by simp)))
          replace HB10 := Lib.hid (And.intro (World.grownBy.cell g HB10.out.1 (by simp)) (World.grownBy.cell g HB10.out.2 (by simp)))
          replace HB11 := Lib.hid (And.intro (World.grownBy.cell g HB11.out.1 (by simp)) (World.grownBy.cell g HB11.out.2 (by simp)))
          replace HB13 := Lib.hid (And.intro (World.grownBy.cell g HB13.out.1 (by simp)) (World.grownBy.cell g HB13.out.2 (by simp)))
          replace HB15 := Lib.hid (And.intro (World.grownBy.cell g HB15.out.1 (by simp)) (World.grownBy.cell g HB15.out.2 (by simp)))
          replace HB17 := Lib.hid (And.intro (World.grownBy.cell g HB17.out.1 (by simp)) (World.grownBy.cell g HB17.out.2 (by simp)))
          replace HB19 := Lib.hid (And.intro (World.grownBy.cell g HB19.out.1 (by simp)) (World.grownBy.cell g HB19.out.2 (by simp)))
          replace HB20 := Lib.hid (And.intro (World.grownBy.cell g HB20.out.1 (by simp)) (World.grownBy.cell g HB20.out.2 (by simp)))
          replace HB22 := Lib.hid (And.intro (World.grownBy.cell g HB22.out.1 (by simp)) (World.grownBy.cell g HB22.out.2 (by simp)))
          replace HB24 := Lib.hid (And.intro (World.grownBy.cell g HB24.out.1 (by simp)) (World.grownBy.cell g HB24.out.2 (by simp)))
          replace HB25 := Lib.hid (And.intro (World.grownBy.cell g HB25.out.1 (by simp)) (World.grownBy.cell g HB25.out.2 (by simp)))
          replace HB27 := Lib.hid (And.intro (World.grownBy.cell g HB27.out.1 (by simp)) (World.grownBy.cell g HB27.out.2 (by simp)))
          replace HB29 := Lib.hid (And.intro (World.grownBy.cell g HB29.out.1 (by simp)) (World.grownBy.cell g HB29.out.2 (by simp)))
          replace HB31 := Lib.hid (And.intro (World.grownBy.cell g HB31.out.1 (by simp)) (World.grownBy.cell g HB31.out.2 (by simp)))
          replace HRB := Lib.hid (And.intro (World.grownBy.cell g HRB.out.1 (by simp)) (And.intro (World.grownBy.cell g HRB.out.2.1 (by simp)) (And.intro (World.grownBy.cell g HRB.out.2.2.1 (by simp)) (And.intro (World.grownBy.cell g HRB.out.2.2.2.1 (by simp)) (World.grownBy.cell g HRB.out.2.2.2.2 (by simp))))))
          replace HR := Lib.hid (HR.out.grown g)
          replace HG := Lib.hid (World.grownBy.trans HG.out g)
          clear g
          have Hr17 := Lib.hid hr
          clear hr
          have qB80 := HB8.out.1
          have qB81 := HB8.out.2
          have qB90 := HB9.out.1
          have qB91 := HB9.out.2
          have qB100 := HB10.out.1
          have qB101 := HB10.out.2
          have qB110 := HB11.out.1
          have qB111 := HB11.out.2
          have qB130 := HB13.out.1
          have qB131 := HB13.out.2
          have qB150 := HB15.out.1
          have qB151 := HB15.out.2
          have qB170 := HB17.out.1
          have qB171 := HB17.out.2
          have qB190 := HB19.out.1
          have qB191 := HB19.out.2
          have qB200 := HB20.out.1
          have qB201 := HB20.out.2
          have qB220 := HB22.out.1
          have qB221 := HB22.out.2
          have qB240 := HB24.out.1
          have qB241 := HB24.out.2
          have qB250 := HB25.out.1
          have qB251 := HB25.out.2
          have qB270 := HB27.out.1
          have qB271 := HB27.out.2
          have qB290 := HB29.out.1
          have qB291 := HB29.out.2
          have qB310 := HB31.out.1
          have qB311 := HB31.out.2
          have qr0 := HRB.out.1
          have qr1 := HRB.out.2.1
          have qr2 := HRB.out.2.2.1
          have qr3 := HRB.out.2.2.2.1
          have qr4 := HRB.out.2.2.2.2
          go_upto_region 23 with fail
          clear qB80 qB81 qB90 qB91 qB100 qB101 qB110 qB111 qB130 qB131 qB150 qB151 qB170 qB171 qB190 qB191 qB200 qB201 qB220 qB221 qB240 qB241 qB250 qB251 qB270 qB271 qB290 qB291 qB310 qB311 qr0 qr1 qr2 qr3 qr4
          have hbx := one_cells V33 (.int .i64 (k : Nat)) (.slice xr17 lL16 yr17) 27
          have g := World.grownBy_alloc V33 (.cells #[.int .i64 (k : Nat), .slice xr17 lL16 yr17] 27) none
          obtain ⟨V34, hV34⟩ : ∃ z, World.alloc V33 (.cells #[.int .i64 (k : Nat), .slice xr17 lL16 yr17] 27) = z := ⟨_, rfl⟩
          rw [hV34] at g hbx ⊢
          clear hV34
          obtain ⟨bB33, hb⟩ : ∃ b, V33.heap.size = b := ⟨_, rfl⟩
          rw [hb] at hbx ⊢
          clear hb
          replace Ha := Lib.hid (Ha.out.grown g)
          replace Hb := Lib.hid (Hb.out.grown g)
          replace Hc := Lib.hid (Hc.out.grown g)
          replace Hb2 := Lib.hid (Hb2.out.grown g)
          replace Hcj := Lib.hid (Hcj.out.grown g)
          replace Hr1 := Lib.hid (Hr1.out.grown g)
          replace Hr2 := Lib.hid (Hr2.out.grown g)
          replace Hr3 := Lib.hid (Hr3.out.grown g)
          replace Hr4 := Lib.hid (Hr4.out.grown g)
          replace Hr6 := Lib.hid (Hr6.out.grown g)
          replace Hr7 := Lib.hid (Hr7.out.grown g)
          replace Hr8 := Lib.hid (Hr8.out.grown g)
          replace Hb25x := Lib.hid (Hb25x.out.grown g)
          replace Hr13 := Lib.hid (Hr13.out.grown g)
          replace Hb29x := Lib.hid (Hb29x.out.grown g)
          replace Hr16 := Lib.hid (Hr16.out.grown g)
          replace Hr17 := Lib.hid (Hr17.out.grown g)
          replace HB8 := Lib.hid (And.intro (World.grownBy.cell g HB8.out.1 (by simp)) (World.grownBy.cell g HB8.out.2 (by simp)))
          replace HB9 := Lib.hid (And.intro (World.grownBy.cell g HB9.out.1 (by simp)) (World.grownBy.cell g HB9.out.2 (by simp)))
          replace HB10 := Lib.hid (And.intro (World.grownBy.cell g HB10.out.1 (by simp)) (World.grownBy.cell g HB10.out.2 (by simp)))
          replace HB11 := Lib.hid (And.intro (World.grownBy.cell g HB11.out.1 (by simp)) (World.grownBy.cell g HB11.out.2 (by simp)))
          replace HB13 := Lib.hid (And.intro (World.grownBy.cell g HB13.out.1 (by simp)) (World.grownBy.cell g HB13.out.2 (by simp)))
          replace HB15 := Lib.hid (And.intro (World.grownBy.cell g HB15.out.1 (by simp)) (World.grownBy.cell g HB15.out.2 (by simp)))
          replace HB17 := Lib.hid (And.intro (World.grownBy.cell g HB17.out.1 (by simp)) (World.grownBy.cell g HB17.out.2 (by simp)))
          replace HB19 := Lib.hid (And.intro (World.grownBy.cell g HB19.out.1 (by simp)) (World.grownBy.cell g HB19.out.2 (by simp)))
          replace HB20 := Lib.hid (And.intro (World.grownBy.cell g HB20.out.1 (by simp)) (World.grownBy.cell g HB20.out.2 (by simp)))
          replace HB22 := Lib.hid (And.intro (World.grownBy.cell g HB22.out.1 (by simp)) (World.grownBy.cell g HB22.out.2 (by simp)))
          replace HB24 := Lib.hid (And.intro (World.grownBy.cell g HB24.out.1 (by simp)) (World.grownBy.cell g HB24.out.2 (by simp)))
          replace HB25 := Lib.hid (And.intro (World.grownBy.cell g HB25.out.1 (by simp)) (World.grownBy.cell g HB25.out.2 (by simp)))
          replace HB27 := Lib.hid (And.intro (World.grownBy.cell g HB27.out.1 (by simp)) (World.grownBy.cell g HB27.out.2 (by simp)))
          replace HB29 := Lib.hid (And.intro (World.grownBy.cell g HB29.out.1 (by simp)) (World.grownBy.cell g HB29.out.2 (by simp)))
          replace HB31 := Lib.hid (And.intro (World.grownBy.cell g HB31.out.1 (by simp)) (World.grownBy.cell g HB31.out.2 (by simp)))
          replace HRB := Lib.hid (And.intro (World.grownBy.cell g HRB.out.1 (by simp)) (And.intro (World.grownBy.cell g HRB.out.2.1 (by simp)) (And.intro (World.grownBy.cell g HRB.out.2.2.1 (by simp)) (And.intro (World.grownBy.cell g HRB.out.2.2.2.1 (by simp)) (World.grownBy.cell g HRB.out.2.2.2.2 (by simp))))))
          replace HR := Lib.hid (HR.out.grown g)
          replace HG := Lib.hid (World.grownBy.trans HG.out g)
          clear g
          have HB33 := Lib.hid (And.intro hbx.2.1 hbx.2.2.1)
          clear hbx
          have qB80 := HB8.out.1
          have qB81 := HB8.out.2
          have qB90 := HB9.out.1
          have qB91 := HB9.out.2
          have qB100 := HB10.out.1
          have qB101 := HB10.out.2
          have qB110 := HB11.out.1
          have qB111 := HB11.out.2
          have qB130 := HB13.out.1
          have qB131 := HB13.out.2
          have qB150 := HB15.out.1
          have qB151 := HB15.out.2
          have qB170 := HB17.out.1
          have qB171 := HB17.out.2
          have qB190 := HB19.out.1
          have qB191 := HB19.out.2
          have qB200 := HB20.out.1
          have qB201 := HB20.out.2
          have qB220 := HB22.out.1
          have qB221 := HB22.out.2
          have qB240 := HB24.out.1
          have qB241 := HB24.out.2
          have qB250 := HB25.out.1
          have qB251 := HB25.out.2
          have qB270 := HB27.out.1
          have qB271 := HB27.out.2
          have qB290 := HB29.out.1
          have qB291 := HB29.out.2
          have qB310 := HB31.out.1
          have qB311 := HB31.out.2
          have qB330 := HB33.out.1
          have qB331 := HB33.out.2
          have qr0 := HRB.out.1
          have qr1 := HRB.out.2.1
          have qr2 := HRB.out.2.2.1
          have qr3 := HRB.out.2.2.2.1
          have qr4 := HRB.out.2.2.2.2
          go_wp2_with fail
          clear qB80 qB81 qB90 qB91 qB100 qB101 qB110 qB111 qB130 qB131 qB150 qB151 qB170 qB171 qB190 qB191 qB200 qB201 qB220 qB221 qB240 qB241 qB250 qB251 qB270 qB271 qB290 qB291 qB310 qB311 qB330 qB331 qr0 qr1 qr2 qr3 qr4
          refine (fromV (n := n) (k := 1) hn1 hn5 (by omega) HR.out.lC EL17.out ZC0.out ZL17.out _ _ _ HR.out.hC).mono ?_
          rintro e V35 ⟨xs1, ys1, rfl, hr, g⟩
          replace Ha := Lib.hid (Ha.out.grown g)
          replace Hb := Lib.hid (Hb.out.grown g)
          replace Hc := Lib.hid (Hc.out.grown g)
          replace Hb2 := Lib.hid (Hb2.out.grown g)
          replace Hcj := Lib.hid (Hcj.out.grown g)
          replace Hr1 := Lib.hid (Hr1.out.grown g)
          replace Hr2 := Lib.hid (Hr2.out.grown g)
          replace Hr3 := Lib.hid (Hr3.out.grown g)
          replace Hr4 := Lib.hid (Hr4.out.grown g)
          replace Hr6 := Lib.hid (Hr6.out.grown g)
          replace Hr7 := Lib.hid (Hr7.out.grown g)
          replace Hr8 := Lib.hid (Hr8.out.grown g)
          replace Hb25x := Lib.hid (Hb25x.out.grown g)
          replace Hr13 := Lib.hid (Hr13.out.grown g)
          replace Hb29x := Lib.hid (Hb29x.out.grown g)
          replace Hr16 := Lib.hid (Hr16.out.grown g)
          replace Hr17 := Lib.hid (Hr17.out.grown g)
          replace HB8 := Lib.hid (And.intro (World.grownBy.cell g HB8.out.1 (by simp)) (World.grownBy.cell g HB8.out.2 (by simp)))
          replace HB9 := Lib.hid (And.intro (World.grownBy.cell g HB9.out.1 (by simp)) (World.grownBy.cell g HB9.out.2 (by simp)))
          replace HB10 := Lib.hid (And.intro (World.grownBy.cell g HB10.out.1 (by simp)) (World.grownBy.cell g HB10.out.2 (by simp)))
          replace HB11 := Lib.hid (And.intro (World.grownBy.cell g HB11.out.1 (by simp)) (World.grownBy.cell g HB11.out.2 (by simp)))
          replace HB13 := Lib.hid (And.intro (World.grownBy.cell g HB13.out.1 (by simp)) (World.grownBy.cell g HB13.out.2 (by simp)))
          replace HB15 := Lib.hid (And.intro (World.grownBy.cell g HB15.out.1 (by simp)) (World.grownBy.cell g HB15.out.2 (by simp)))
          replace HB17 := Lib.hid (And.intro (World.grownBy.cell g HB17.out.1 (by simp)) (World.grownBy.cell g HB17.out.2 (by simp)))
          replace HB19 := Lib.hid (And.intro (World.grownBy.cell g HB19.out.1 (by simp)) (World.grownBy.cell g HB19.out.2 (by simp)))
          replace HB20 := Lib.hid (And.intro (World.grownBy.cell g HB20.out.1 (by simp)) (World.grownBy.cell g HB20.out.2 (by simp)))
          replace HB22 := Lib.hid (And.intro (World.grownBy.cell g HB22.out.1 (by simp)) (World.grownBy.cell g HB22.out.2 (by simp)))
          replace HB24 := Lib.hid (And.intro (World.grownBy.cell g HB24.out.1 (by simp)) (World.grownBy.cell g HB24.out.2 (by simp)))
          replace HB25 := Lib.hid (And.intro (World.grownBy.cell g HB25.out.1 (by simp)) (World.grownBy.cell g HB25.out.2 (by simp)))
          replace HB27 := Lib.hid (And.intro (World.grownBy.cell g HB27.out.1 (by simp)) (World.grownBy.cell g HB27.out.2 (by simp)))
          replace HB29 := Lib.hid (And.intro (World.grownBy.cell g HB29.out.1 (by simp)) (World.grownBy.cell g HB29.out.2 (by simp)))
          replace HB31 := Lib.hid (And.intro (World.grownBy.cell g HB31.out.1 (by simp)) (World.grownBy.cell g HB31.out.2 (by simp)))
          replace HB33 := Lib.hid (And.intro (World.grownBy.cell g HB33.out.1 (by simp)) (World.grownBy.cell g HB33.out.2 (by simp)))
          replace HRB := Lib.hid (And.intro (World.grownBy.cell g HRB.out.1 (by simp)) (And.intro (World.grownBy.cell g HRB.out.2.1 (by simp)) (And.intro (World.grownBy.cell g HRB.out.2.2.1 (by simp)) (And.intro (World.grownBy.cell g HRB.out.2.2.2.1 (by simp)) (World.grownBy.cell g HRB.out.2.2.2.2 (by simp))))))
          replace HR := Lib.hid (HR.out.grown g)
          replace HG := Lib.hid (World.grownBy.trans HG.out g)
          clear g
          have Hs1 := Lib.hid hr
          clear hr
          have qB80 := HB8.out.1
          have qB81 := HB8.out.2
          have qB90 := HB9.out.1
          have qB91 := HB9.out.2
          have qB100 := HB10.out.1
          have qB101 := HB10.out.2
          have qB110 := HB11.out.1
          have qB111 := HB11.out.2
          have qB130 := HB13.out.1
          have qB131 := HB13.out.2
          have qB150 := HB15.out.1
          have qB151 := HB15.out.2
          have qB170 := HB17.out.1
          have qB171 := HB17.out.2
          have qB190 := HB19.out.1
          have qB191 := HB19.out.2
          have qB200 := HB20.out.1
          have qB201 := HB20.out.2
          have qB220 := HB22.out.1
          have qB221 := HB22.out.2
          have qB240 := HB24.out.1
          have qB241 := HB24.out.2
          have qB250 := HB25.out.1
          have qB251 := HB25.out.2
          have qB270 := HB27.out.1
          have qB271 := HB27.out.2
          have qB290 := HB29.out.1
          have qB291 := HB29.out.2
          have qB310 := HB31.out.1
          have qB311 := HB31.out.2
          have qB330 := HB33.out.1
          have qB331 := HB33.out.2
          have qr0 := HRB.out.1
          have qr1 := HRB.out.2.1
          have qr2 := HRB.out.2.2.1
          have qr3 := HRB.out.2.2.2.1
          have qr4 := HRB.out.2.2.2.2
          go_upto_region 24 with fail
          clear qB80 qB81 qB90 qB91 qB100 qB101 qB110 qB111 qB130 qB131 qB150 qB151 qB170 qB171 qB190 qB191 qB200 qB201 qB220 qB221 qB240 qB241 qB250 qB251 qB270 qB271 qB290 qB291 qB310 qB311 qB330 qB331 qr0 qr1 qr2 qr3 qr4
          have hbx := one_cells V35 (.int .i64 1) (.slice xs1 lL17 ys1) 27
          have g := World.grownBy_alloc V35 (.cells #[.int .i64 1, .slice xs1 lL17 ys1] 27) none
          obtain ⟨V36, hV36⟩ : ∃ z, World.alloc V35 (.cells #[.int .i64 1, .slice xs1 lL17 ys1] 27) = z := ⟨_, rfl⟩
          rw [hV36] at g hbx ⊢
          clear hV36
          obtain ⟨bB35, hb⟩ : ∃ b, V35.heap.size = b := ⟨_, rfl⟩
          rw [hb] at hbx ⊢
          clear hb
          replace Ha := Lib.hid (Ha.out.grown g)
          replace Hb := Lib.hid (Hb.out.grown g)
          replace Hc := Lib.hid (Hc.out.grown g)
          replace Hb2 := Lib.hid (Hb2.out.grown g)
          replace Hcj := Lib.hid (Hcj.out.grown g)
          replace Hr1 := Lib.hid (Hr1.out.grown g)
          replace Hr2 := Lib.hid (Hr2.out.grown g)
          replace Hr3 := Lib.hid (Hr3.out.grown g)
          replace Hr4 := Lib.hid (Hr4.out.grown g)
          replace Hr6 := Lib.hid (Hr6.out.grown g)
          replace Hr7 := Lib.hid (Hr7.out.grown g)
          replace Hr8 := Lib.hid (Hr8.out.grown g)
          replace Hb25x := Lib.hid (Hb25x.out.grown g)
          replace Hr13 := Lib.hid (Hr13.out.grown g)
          replace Hb29x := Lib.hid (Hb29x.out.grown g)
          replace Hr16 := Lib.hid (Hr16.out.grown g)
          replace Hr17 := Lib.hid (Hr17.out.grown g)
          replace Hs1 := Lib.hid (Hs1.out.grown g)
          replace HB8 := Lib.hid (And.intro (World.grownBy.cell g HB8.out.1 (by simp)) (World.grownBy.cell g HB8.out.2 (by simp)))
          replace HB9 := Lib.hid (And.intro (World.grownBy.cell g HB9.out.1 (by simp)) (World.grownBy.cell g HB9.out.2 (by simp)))
          replace HB10 := Lib.hid (And.intro (World.grownBy.cell g HB10.out.1 (by simp)) (World.grownBy.cell g HB10.out.2 (by simp)))
          replace HB11 := Lib.hid (And.intro (World.grownBy.cell g HB11.out.1 (by simp)) (World.grownBy.cell g HB11.out.2 (by simp)))
          replace HB13 := Lib.hid (And.intro (World.grownBy.cell g HB13.out.1 (by simp)) (World.grownBy.cell g HB13.out.2 (by simp)))
          replace HB15 := Lib.hid (And.intro (World.grownBy.cell g HB15.out.1 (by simp)) (World.grownBy.cell g HB15.out.2 (by simp)))
          replace HB17 := Lib.hid (And.intro (World.grownBy.cell g HB17.out.1 (by simp)) (World.grownBy.cell g HB17.out.2 (by simp)))
          replace HB19 := Lib.hid (And.intro (World.grownBy.cell g HB19.out.1 (by simp)) (World.grownBy.cell g HB19.out.2 (by simp)))
          replace HB20 := Lib.hid (And.intro (World.grownBy.cell g HB20.out.1 (by simp)) (World.grownBy.cell g HB20.out.2 (by simp)))
          replace HB22 := Lib.hid (And.intro (World.grownBy.cell g HB22.out.1 (by simp)) (World.grownBy.cell g HB22.out.2 (by simp)))
          replace HB24 := Lib.hid (And.intro (World.grownBy.cell g HB24.out.1 (by simp)) (World.grownBy.cell g HB24.out.2 (by simp)))
          replace HB25 := Lib.hid (And.intro (World.grownBy.cell g HB25.out.1 (by simp)) (World.grownBy.cell g HB25.out.2 (by simp)))
          replace HB27 := Lib.hid (And.intro (World.grownBy.cell g HB27.out.1 (by simp)) (World.grownBy.cell g HB27.out.2 (by simp)))
          replace HB29 := Lib.hid (And.intro (World.grownBy.cell g HB29.out.1 (by simp)) (World.grownBy.cell g HB29.out.2 (by simp)))
          replace HB31 := Lib.hid (And.intro (World.grownBy.cell g HB31.out.1 (by simp)) (World.grownBy.cell g HB31.out.2 (by simp)))
          replace HB33 := Lib.hid (And.intro (World.grownBy.cell g HB33.out.1 (by simp)) (World.grownBy.cell g HB33.out.2 (by simp)))
          replace HRB := Lib.hid (And.intro (World.grownBy.cell g HRB.out.1 (by simp)) (And.intro (World.grownBy.cell g HRB.out.2.1 (by simp)) (And.intro (World.grownBy.cell g HRB.out.2.2.1 (by simp)) (And.intro (World.grownBy.cell g HRB.out.2.2.2.1 (by simp)) (World.grownBy.cell g HRB.out.2.2.2.2 (by simp))))))
          replace HR := Lib.hid (HR.out.grown g)
          replace HG := Lib.hid (World.grownBy.trans HG.out g)
          clear g
          have HB35 := Lib.hid (And.intro hbx.2.1 hbx.2.2.1)
          clear hbx
          clear HRB HR
          have qB80 := HB8.out.1
          have qB81 := HB8.out.2
          have qB90 := HB9.out.1
          have qB91 := HB9.out.2
          have qB100 := HB10.out.1
          have qB101 := HB10.out.2
          have qB110 := HB11.out.1
          have qB111 := HB11.out.2
          have qB130 := HB13.out.1
          have qB131 := HB13.out.2
          have qB150 := HB15.out.1
          have qB151 := HB15.out.2
          have qB170 := HB17.out.1
          have qB171 := HB17.out.2
          have qB190 := HB19.out.1
          have qB191 := HB19.out.2
          have qB200 := HB20.out.1
          have qB201 := HB20.out.2
          have qB220 := HB22.out.1
          have qB221 := HB22.out.2
          have qB240 := HB24.out.1
          have qB241 := HB24.out.2
          have qB250 := HB25.out.1
          have qB251 := HB25.out.2
          have qB270 := HB27.out.1
          have qB271 := HB27.out.2
          have qB290 := HB29.out.1
          have qB291 := HB29.out.2
          have qB310 := HB31.out.1
          have qB311 := HB31.out.2
          have qB330 := HB33.out.1
          have qB331 := HB33.out.2
          have qB350 := HB35.out.1
          have qB351 := HB35.out.2
          go_wp2_with fail
          clear qB80 qB81 qB90 qB91 qB100 qB101 qB110 qB111 qB130 qB131 qB150 qB151 qB170 qB171 qB190 qB191 qB200 qB201 qB220 qB221 qB240 qB241 qB250 qB251 qB270 qB271 qB290 qB291 qB310 qB311 qB330 qB331 qB350 qB351
          refine (CX3.out _ _ _ _ _ Ha.out Hs1.out).mono ?_
          rintro e V37 ⟨xr18, yr18, rfl, hr, g⟩
          replace Ha := Lib.hid (Ha.out.grown g)
          replace Hb := Lib.hid (Hb.out.grown g)
          replace Hc := Lib.hid (Hc.out.grown g)
          replace Hb2 := Lib.hid (Hb2.out.grown g)
          replace Hcj := Lib.hid (Hcj.out.grown g)
          replace Hr1 := Lib.hid (Hr1.out.grown g)
          replace Hr2 := Lib.hid (Hr2.out.grown g)
          replace Hr3 := Lib.hid (Hr3.out.grown g)
          replace Hr4 := Lib.hid (Hr4.out.grown g)
          replace Hr6 := Lib.hid (Hr6.out.grown g)
          replace Hr7 := Lib.hid (Hr7.out.grown g)
          replace Hr8 := Lib.hid (Hr8.out.grown g)
          replace Hb25x := Lib.hid (Hb25x.out.grown g)
          replace Hr13 := Lib.hid (Hr13.out.grown g)
          replace Hb29x := Lib.hid (Hb29x.out.grown g)
          replace Hr16 := Lib.hid (Hr16.out.grown g)
          replace Hr17 := Lib.hid (Hr17.out.grown g)
          replace Hs1 := Lib.hid (Hs1.out.grown g)
          replace HB8 := Lib.hid (And.intro (World.grownBy.cell g HB8.out.1 (by simp)) (World.grownBy.cell g HB8.out.2 (by simp)))
          replace HB9 := Lib.hid (And.intro (World.grownBy.cell g HB9.out.1 (by simp)) (World.grownBy.cell g HB9.out.2 (by simp)))
          replace HB10 := Lib.hid (And.intro (World.grownBy.cell g HB10.out.1 (by simp)) (World.grownBy.cell g HB10.out.2 (by simp)))
          replace HB11 := Lib.hid (And.intro (World.grownBy.cell g HB11.out.1 (by simp)) (World.grownBy.cell g HB11.out.2 (by simp)))
          replace HB13 := Lib.hid (And.intro (World.grownBy.cell g HB13.out.1 (by simp)) (World.grownBy.cell g HB13.out.2 (by simp)))
          replace HB15 := Lib.hid (And.intro (World.grownBy.cell g HB15.out.1 (by simp)) (World.grownBy.cell g HB15.out.2 (by simp)))
          replace HB17 := Lib.hid (And.intro (World.grownBy.cell g HB17.out.1 (by simp)) (World.grownBy.cell g HB17.out.2 (by simp)))
          replace HB19 := Lib.hid (And.intro (World.grownBy.cell g HB19.out.1 (by simp)) (World.grownBy.cell g HB19.out.2 (by simp)))
          replace HB20 := Lib.hid (And.intro (World.grownBy.cell g HB20.out.1 (by simp)) (World.grownBy.cell g HB20.out.2 (by simp)))
          replace HB22 := Lib.hid (And.intro (World.grownBy.cell g HB22.out.1 (by simp)) (World.grownBy.cell g HB22.out.2 (by simp)))
          replace HB24 := Lib.hid (And.intro (World.grownBy.cell g HB24.out.1 (by simp)) (World.grownBy.cell g HB24.out.2 (by simp)))
          replace HB25 := Lib.hid (And.intro (World.grownBy.cell g HB25.out.1 (by simp)) (World.grownBy.cell g HB25.out.2 (by simp)))
          replace HB27 := Lib.hid (And.intro (World.grownBy.cell g HB27.out.1 (by simp)) (World.grownBy.cell g HB27.out.2 (by simp)))
          replace HB29 := Lib.hid (And.intro (World.grownBy.cell g HB29.out.1 (by simp)) (World.grownBy.cell g HB29.out.2 (by simp)))
          replace HB31 := Lib.hid (And.intro (World.grownBy.cell g HB31.out.1 (by simp)) (World.grownBy.cell g HB31.out.2 (by simp)))
          replace HB33 := Lib.hid (And.intro (World.grownBy.cell g HB33.out.1 (by simp)) (World.grownBy.cell g HB33.out.2 (by simp)))
          replace HB35 := Lib.hid (And.intro (World.grownBy.cell g HB35.out.1 (by simp)) (World.grownBy.cell g HB35.out.2 (by simp)))
          replace HG := Lib.hid (World.grownBy.trans HG.out g)
          clear g
          have Hr18 := Lib.hid hr
          clear hr
          have qB80 := HB8.out.1
          have qB81 := HB8.out.2
          have qB90 := HB9.out.1
          have qB91 := HB9.out.2
          have qB100 := HB10.out.1
          have qB101 := HB10.out.2
          have qB110 := HB11.out.1
          have qB111 := HB11.out.2
          have qB130 := HB13.out.1
          have qB131 := HB13.out.2
          have qB150 := HB15.out.1
          have qB151 := HB15.out.2
          have qB170 := HB17.out.1
          have qB171 := HB17.out.2
          have qB190 := HB19.out.1
          have qB191 := HB19.out.2
          have qB200 := HB20.out.1
          have qB201 := HB20.out.2
          have qB220 := HB22.out.1
          have qB221 := HB22.out.2
          have qB240 := HB24.out.1
          have qB241 := HB24.out.2
          have qB250 := HB25.out.1
          have qB251 := HB25.out.2
          have qB270 := HB27.out.1
          have qB271 := HB27.out.2
          have qB290 := HB29.out.1
          have qB291 := HB29.out.2
          have qB310 := HB31.out.1
          have qB311 := HB31.out.2
          have qB330 := HB33.out.1
          have qB331 := HB33.out.2
          have qB350 := HB35.out.1
          have qB351 := HB35.out.2
          go_upto_region 25 with fail
          clear qB80 qB81 qB90 qB91 qB100 qB101 qB110 qB111 qB130 qB131 qB150 qB151 qB170 qB171 qB190 qB191 qB200 qB201 qB220 qB221 qB240 qB241 qB250 qB251 qB270 qB271 qB290 qB291 qB310 qB311 qB330 qB331 qB350 qB351
          have hbx := one_cells V37 (.int .i64 (qp : Nat)) (.slice xr18 lLP yr18) 27
          have g := World.grownBy_alloc V37 (.cells #[.int .i64 (qp : Nat), .slice xr18 lLP yr18] 27) none
          obtain ⟨V38, hV38⟩ : ∃ z, World.alloc V37 (.cells #[.int .i64 (qp : Nat), .slice xr18 lLP yr18] 27) = z := ⟨_, rfl⟩
          rw [hV38] at g hbx ⊢
          clear hV38
          obtain ⟨bB36, hb⟩ : ∃ b, V37.heap.size = b := ⟨_, rfl⟩
          rw [hb] at hbx ⊢
          clear hb
          replace Ha := Lib.hid (Ha.out.grown g)
          replace Hb := Lib.hid (Hb.out.grown g)
          replace Hc := Lib.hid (Hc.out.grown g)
          replace Hb2 := Lib.hid (Hb2.out.grown g)
          replace Hcj := Lib.hid (Hcj.out.grown g)
          replace Hr1 := Lib.hid (Hr1.out.grown g)
          replace Hr2 := Lib.hid (Hr2.out.grown g)
          replace Hr3 := Lib.hid (Hr3.out.grown g)
          replace Hr4 := Lib.hid (Hr4.out.grown g)
          replace Hr6 := Lib.hid (Hr6.out.grown g)
          replace Hr7 := Lib.hid (Hr7.out.grown g)
          replace Hr8 := Lib.hid (Hr8.out.grown g)
          replace Hb25x := Lib.hid (Hb25x.out.grown g)
          replace Hr13 := Lib.hid (Hr13.out.grown g)
          replace Hb29x := Lib.hid (Hb29x.out.grown g)
          replace Hr16 := Lib.hid (Hr16.out.grown g)
          replace Hr17 := Lib.hid (Hr17.out.grown g)
          replace Hs1 := Lib.hid (Hs1.out.grown g)
          replace Hr18 := Lib.hid (Hr18.out.grown g)
          replace HB8 := Lib.hid (And.intro (World.grownBy.cell g HB8.out.1 (by simp)) (World.grownBy.cell g HB8.out.2 (by simp)))
          replace HB9 := Lib.hid (And.intro (World.grownBy.cell g HB9.out.1 (by simp)) (World.grownBy.cell g HB9.out.2 (by simp)))
          replace HB10 := Lib.hid (And.intro (World.grownBy.cell g HB10.out.1 (by simp)) (World.grownBy.cell g HB10.out.2 (by simp)))
          replace HB11 := Lib.hid (And.intro (World.grownBy.cell g HB11.out.1 (by simp)) (World.grownBy.cell g HB11.out.2 (by simp)))
          replace HB13 := Lib.hid (And.intro (World.grownBy.cell g HB13.out.1 (by simp)) (World.grownBy.cell g HB13.out.2 (by simp)))
          replace HB15 := Lib.hid (And.intro (World.grownBy.cell g HB15.out.1 (by simp)) (World.grownBy.cell g HB15.out.2 (by simp)))
          replace HB17 := Lib.hid (And.intro (World.grownBy.cell g HB17.out.1 (by simp)) (World.grownBy.cell g HB17.out.2 (by simp)))
          replace HB19 := Lib.hid (And.intro (World.grownBy.cell g HB19.out.1 (by simp)) (World.grownBy.cell g HB19.out.2 (by simp)))
          replace HB20 := Lib.hid (And.intro (World.grownBy.cell g HB20.out.1 (by simp)) (World.grownBy.cell g HB20.out.2 (by simp)))
          replace HB22 := Lib.hid (And.intro (World.grownBy.cell g HB22.out.1 (by simp)) (World.grownBy.cell g HB22.out.2 (by simp)))
          replace HB24 := Lib.hid (And.intro (World.grownBy.cell g HB24.out.1 (by simp)) (World.grownBy.cell g HB24.out.2 (by simp)))
          replace HB25 := Lib.hid (And.intro (World.grownBy.cell g HB25.out.1 (by simp)) (World.grownBy.cell g HB25.out.2 (by simp)))
          replace HB27 := Lib.hid (And.intro (World.grownBy.cell g HB27.out.1 (by simp)) (World.grownBy.cell g HB27.out.2 (by simp)))
          replace HB29 := Lib.hid (And.intro (World.grownBy.cell g HB29.out.1 (by simp)) (World.grownBy.cell g HB29.out.2 (by simp)))
          replace HB31 := Lib.hid (And.intro (World.grownBy.cell g HB31.out.1 (by simp)) (World.grownBy.cell g HB31.out.2 (by simp)))
          replace HB33 := Lib.hid (And.intro (World.grownBy.cell g HB33.out.1 (by simp)) (World.grownBy.cell g HB33.out.2 (by simp)))
          replace HB35 := Lib.hid (And.intro (World.grownBy.cell g HB35.out.1 (by simp)) (World.grownBy.cell g HB35.out.2 (by simp)))
          replace HG := Lib.hid (World.grownBy.trans HG.out g)
          clear g
          have HB36 := Lib.hid (And.intro hbx.2.1 hbx.2.2.1)
          clear hbx
          go_cut [190] (fun s0 wx => s0 = .bool (decide (k ≤ 2 ∧ 0 < lL17)) ∧ wx = V38)
          case first =>
            as_aux_lemma =>
              by_cases hk2 : k ≤ 2
              · have he := (POK.out hk2).2.2
                by_cases hl : 0 < lL17
                · have hli : decide ((0 : Int) < (lL17 : Int)) = true := by simpa using hl
                  have qB80 := HB8.out.1
                  have qB81 := HB8.out.2
                  have qB90 := HB9.out.1
                  have qB91 := HB9.out.2
                  have qB100 := HB10.out.1
                  have qB101 := HB10.out.2
                  have qB110 := HB11.out.1
                  have qB111 := HB11.out.2
                  have qB130 := HB13.out.1
                  have qB131 := HB13.out.2
                  have qB150 := HB15.out.1
                  have qB151 := HB15.out.2
                  have qB170 := HB17.out.1
                  have qB171 := HB17.out.2
                  have qB190 := HB19.out.1
                  have qB191 := HB19.out.2
                  have qB200 := HB20.out.1
                  have qB201 := HB20.out.2
                  have qB220 := HB22.out.1
                  have qB221 := HB22.out.2
                  have qB240 := HB24.out.1
                  have qB241 := HB24.out.2
                  have qB250 := HB25.out.1
                  have qB251 := HB25.out.2
                  have qB270 := HB27.out.1
                  have qB271 := HB27.out.2
                  have qB290 := HB29.out.1
                  have qB291 := HB29.out.2
                  have qB310 := HB31.out.1
                  have qB311 := HB31.out.2
                  have qB330 := HB33.out.1
                  have qB331 := HB33.out.2
                  have qB350 := HB35.out.1
                  have qB351 := HB35.out.2
                  have qB360 := HB36.out.1
                  have qB361 := HB36.out.2
                  go_wp2_with fail
                  go_meet
                  exact ⟨by simp [hk2, hl], rfl⟩
                · have hli : decide ((0 : Int) < (lL17 : Int)) = false := by simpa using hl
                  have qB80 := HB8.out.1
                  have qB81 := HB8.out.2
                  have qB90 := HB9.out.1
                  have qB91 := HB9.out.2
                  have qB100 := HB10.out.1
                  have qB101 := HB10.out.2
                  have qB110 := HB11.out.1
                  have qB111 := HB11.out.2
                  have qB130 := HB13.out.1
                  have qB131 := HB13.out.2
                  have qB150 := HB15.out.1
                  have qB151 := HB15.out.2
                  have qB170 := HB17.out.1
                  have qB171 := HB17.out.2
                  have qB190 := HB19.out.1
                  have qB191 := HB19.out.2
                  have qB200 := HB20.out.1
                  have qB201 := HB20.out.2
                  have qB220 := HB22.out.1
                  have qB221 := HB22.out.2
                  have qB240 := HB24.out.1
                  have qB241 := HB24.out.2
                  have qB250 := HB25.out.1
                  have qB251 := HB25.out.2
                  have qB270 := HB27.out.1
                  have qB271 := HB27.out.2
                  have qB290 := HB29.out.1
                  have qB291 := HB29.out.2
                  have qB310 := HB31.out.1
                  have qB311 := HB31.out.2
                  have qB330 := HB33.out.1
                  have qB331 := HB33.out.2
                  have qB350 := HB35.out.1
                  have qB351 := HB35.out.2
                  have qB360 := HB36.out.1
                  have qB361 := HB36.out.2
                  go_wp2_with fail
                  go_meet
                  exact ⟨by simp [hl], rfl⟩
              · have he := POD.out hk2
                have qB80 := HB8.out.1
                have qB81 := HB8.out.2
                have qB90 := HB9.out.1
                have qB91 := HB9.out.2
                have qB100 := HB10.out.1
                have qB101 := HB10.out.2
                have qB110 := HB11.out.1
                have qB111 := HB11.out.2
                have qB130 := HB13.out.1
                have qB131 := HB13.out.2
                have qB150 := HB15.out.1
                have qB151 := HB15.out.2
                have qB170 := HB17.out.1
                have qB171 := HB17.out.2
                have qB190 := HB19.out.1
                have qB191 := HB19.out.2
                have qB200 := HB20.out.1
                have qB201 := HB20.out.2
                have qB220 := HB22.out.1
                have qB221 := HB22.out.2
                have qB240 := HB24.out.1
                have qB241 := HB24.out.2
                have qB250 := HB25.out.1
                have qB251 := HB25.out.2
                have qB270 := HB27.out.1
                have qB271 := HB27.out.2
                have qB290 := HB29.out.1
                have qB291 := HB29.out.2
                have qB310 := HB31.out.1
                have qB311 := HB31.out.2
                have qB330 := HB33.out.1
                have qB331 := HB33.out.2
                have qB350 := HB35.out.1
                have qB351 := HB35.out.2
                have qB360 := HB36.out.1
                have qB361 := HB36.out.2
                go_wp2_with fail
                go_meet
                exact ⟨by simp [hk2], rfl⟩
          case rest =>
            as_aux_lemma =>
              obtain ⟨rfl, hw0⟩ := hcut
              rw [hw0]
              clear hw0
              have qB80 := HB8.out.1
              have qB81 := HB8.out.2
              have qB90 := HB9.out.1
              have qB91 := HB9.out.2
              have qB100 := HB10.out.1
              have qB101 := HB10.out.2
              have qB110 := HB11.out.1
              have qB111 := HB11.out.2
              have qB130 := HB13.out.1
              have qB131 := HB13.out.2
              have qB150 := HB15.out.1
              have qB151 := HB15.out.2
              have qB170 := HB17.out.1
              have qB171 := HB17.out.2
              have qB190 := HB19.out.1
              have qB191 := HB19.out.2
              have qB200 := HB20.out.1
              have qB201 := HB20.out.2
              have qB220 := HB22.out.1
              have qB221 := HB22.out.2
              have qB240 := HB24.out.1
              have qB241 := HB24.out.2
              have qB250 := HB25.out.1
              have qB251 := HB25.out.2
              have qB270 := HB27.out.1
              have qB271 := HB27.out.2
              have qB290 := HB29.out.1
              have qB291 := HB29.out.2
              have qB310 := HB31.out.1
              have qB311 := HB31.out.2
              have qB330 := HB33.out.1
              have qB331 := HB33.out.2
              have qB350 := HB35.out.1
              have qB351 := HB35.out.2
              have qB360 := HB36.out.1
              have qB361 := HB36.out.2
              go_upto_if 190 with fail
              clear qB80 qB81 qB90 qB91 qB100 qB101 qB110 qB111 qB130 qB131 qB150 qB151 qB170 qB171 qB190 qB191 qB200 qB201 qB220 qB221 qB240 qB241 qB250 qB251 qB270 qB271 qB290 qB291 qB310 qB311 qB330 qB331 qB350 qB351 qB360 qB361
              go_cut [] (fun wx => V38.grownBy wx none)
              case first =>
                as_aux_lemma =>
                  by_cases hkl : k ≤ 2 ∧ 0 < lL17
                  · rw [decide_eq_true hkl]
                    have hqk1 : qp ≤ k + 1 := Nat.le_of_eq (POK.out hkl.1).1
                    have hqk2 : k + 1 ≤ qp := Nat.le_of_eq (POK.out hkl.1).1.symm
                    have hq1 : 1 ≤ qp := by omega
                    have ELP := Lib.hid (show prodL (n ^ 1) (fromL n k A0) (fromL n 1 C0) = LP from by rw [EL1.out, EL17.out]; exact (POK.out hkl.1).2.1)
                    have hNE := Lib.hid (show fromL n 1 C0 ≠ [] from by intro e; have h1 := ZL17.out; rw [← EL17.out, e] at h1; have h2 := hkl.2; simp only [List.length_nil] at h1; omega)
                    have HC := Lib.hid (grown_refl V38 none)
                    clear hkl
                    obtain ⟨L18, hL18⟩ : ∃ l : List Int, uniq (joinP n (n ^ (1 - 1)) (prodL (n ^ 1) (fromL n k A0) (fromL n 1 C0)) (fromL n 1 C0)) = l := ⟨_, rfl⟩
                    have vL18 := Lib.hid (by rw [← hL18]; exact (by have h := VR.join (n := n) (k := qp) (j := 1) (A := prodL (n ^ 1) (fromL n k A0) (fromL n 1 C0)) (B := fromL n 1 C0) (by rw [ELP.out]; exact vLP.out) (by rw [EL17.out]; exact vL17.out) hn1 hq1 (by omega); rw [show qp + 1 - 2 = k by omega] at h; exact h) : VR n (k) L18)
                    obtain ⟨lL18, hlL18⟩ : ∃ l, L18.length = l := ⟨_, rfl⟩
                    have EL18 := Lib.hid hL18
                    have ZL18 := Lib.hid hlL18
                    clear hL18 hlL18
                    have Q21 := Lib.hid (show L18 = L1 from by rw [← EL18.out, ← EL1.out]; exact jn_prod (VR.from n k A0 hn1) (VR.from n 1 C0 hn1) hn1 hNE.out)
                    have qB80 := HB8.out.1
                    have qB81 := HB8.out.2
                    have qB90 := HB9.out.1
                    have qB91 := HB9.out.2
                    have qB100 := HB10.out.1
                    have qB101 := HB10.out.2
                    have qB110 := HB11.out.1
                    have qB111 := HB11.out.2
                    have qB130 := HB13.out.1
                    have qB131 := HB13.out.2
                    have qB150 := HB15.out.1
                    have qB151 := HB15.out.2
                    have qB170 := HB17.out.1
                    have qB171 := HB17.out.2
                    have qB190 := HB19.out.1
                    have qB191 := HB19.out.2
                    have qB200 := HB20.out.1
                    have qB201 := HB20.out.2
                    have qB220 := HB22.out.1
                    have qB221 := HB22.out.2
                    have qB240 := HB24.out.1
                    have qB241 := HB24.out.2
                    have qB250 := HB25.out.1
                    have qB251 := HB25.out.2
                    have qB270 := HB27.out.1
                    have qB271 := HB27.out.2
                    have qB290 := HB29.out.1
                    have qB291 := HB29.out.2
                    have qB310 := HB31.out.1
                    have qB311 := HB31.out.2
                    have qB330 := HB33.out.1
                    have qB331 := HB33.out.2
                    have qB350 := HB35.out.1
                    have qB351 := HB35.out.2
                    have qB360 := HB36.out.1
                    have qB361 := HB36.out.2
                    go_wp2_with fail
                    clear qB80 qB81 qB90 qB91 qB100 qB101 qB110 qB111 qB130 qB131 qB150 qB151 qB170 qB171 qB190 qB191 qB200 qB201 qB220 qB221 qB240 qB241 qB250 qB251 qB270 qB271 qB290 qB291 qB310 qB311 qB330 qB331 qB350 qB351 qB360 qB361
                    refine (rvalidV (k := qp) vLP.out hn5 hq1 hp3 ZLP.out _ _ _ Hr18.out).mono ?_
                    rintro e V39 ⟨rfl, g⟩
                    replace Ha := Lib.hid (Ha.out.grown g)
                    replace Hb := Lib.hid (Hb.out.grown g)
                    replace Hc := Lib.hid (Hc.out.grown g)
                    replace Hb2 := Lib.hid (Hb2.out.grown g)
                    replace Hcj := Lib.hid (Hcj.out.grown g)
                    replace Hr1 := Lib.hid (Hr1.out.grown g)
                    replace Hr2 := Lib.hid (Hr2.out.grown g)
                    replace Hr3 := Lib.hid (Hr3.out.grown g)
                    replace Hr4 := Lib.hid (Hr4.out.grown g)
                    replace Hr6 := Lib.hid (Hr6.out.grown g)
                    replace Hr7 := Lib.hid (Hr7.out.grown g)
                    replace Hr8 := Lib.hid (Hr8.out.grown g)
                    replace Hb25x := Lib.hid (Hb25x.out.grown g)
                    replace Hr13 := Lib.hid (Hr13.out.grown g)
                    replace Hb29x := Lib.hid (Hb29x.out.grown g)
                    replace Hr16 := Lib.hid (Hr16.out.grown g)
                    replace Hr17 := Lib.hid (Hr17.out.grown g)
                    replace Hs1 := Lib.hid (Hs1.out.grown g)
                    replace Hr18 := Lib.hid (Hr18.out.grown g)
                    replace HB8 := Lib.hid (And.intro (World.grownBy.cell g HB8.out.1 (by simp)) (World.grownBy.cell g HB8.out.2 (by simp)))
                    replace HB9 := Lib.hid (And.intro (World.grownBy.cell g HB9.out.1 (by simp)) (World.grownBy.cell g HB9.out.2 (by simp)))
                    replace HB10 := Lib.hid (And.intro (World.grownBy.cell g HB10.out.1 (by simp)) (World.grownBy.cell g HB10.out.2 (by simp)))
                    replace HB11 := Lib.hid (And.intro (World.grownBy.cell g HB11.out.1 (by simp)) (World.grownBy.cell g HB11.out.2 (by simp)))
                    replace HB13 := Lib.hid (And.intro (World.grownBy.cell g HB13.out.1 (by simp)) (World.grownBy.cell g HB13.out.2 (by simp)))
                    replace HB15 := Lib.hid (And.intro (World.grownBy.cell g HB15.out.1 (by simp)) (World.grownBy.cell g HB15.out.2 (by simp)))
                    replace HB17 := Lib.hid (And.intro (World.grownBy.cell g HB17.out.1 (by simp)) (World.grownBy.cell g HB17.out.2 (by simp)))
                    replace HB19 := Lib.hid (And.intro (World.grownBy.cell g HB19.out.1 (by simp)) (World.grownBy.cell g HB19.out.2 (by simp)))
                    replace HB20 := Lib.hid (And.intro (World.grownBy.cell g HB20.out.1 (by simp)) (World.grownBy.cell g HB20.out.2 (by simp)))
                    replace HB22 := Lib.hid (And.intro (World.grownBy.cell g HB22.out.1 (by simp)) (World.grownBy.cell g HB22.out.2 (by simp)))
                    replace HB24 := Lib.hid (And.intro (World.grownBy.cell g HB24.out.1 (by simp)) (World.grownBy.cell g HB24.out.2 (by simp)))
                    replace HB25 := Lib.hid (And.intro (World.grownBy.cell g HB25.out.1 (by simp)) (World.grownBy.cell g HB25.out.2 (by simp)))
                    replace HB27 := Lib.hid (And.intro (World.grownBy.cell g HB27.out.1 (by simp)) (World.grownBy.cell g HB27.out.2 (by simp)))
                    replace HB29 := Lib.hid (And.intro (World.grownBy.cell g HB29.out.1 (by simp)) (World.grownBy.cell g HB29.out.2 (by simp)))
                    replace HB31 := Lib.hid (And.intro (World.grownBy.cell g HB31.out.1 (by simp)) (World.grownBy.cell g HB31.out.2 (by simp)))
                    replace HB33 := Lib.hid (And.intro (World.grownBy.cell g HB33.out.1 (by simp)) (World.grownBy.cell g HB33.out.2 (by simp)))
                    replace HB35 := Lib.hid (And.intro (World.grownBy.cell g HB35.out.1 (by simp)) (World.grownBy.cell g HB35.out.2 (by simp)))
                    replace HB36 := Lib.hid (And.intro (World.grownBy.cell g HB36.out.1 (by simp)) (World.grownBy.cell g HB36.out.2 (by simp)))
                    replace HC := Lib.hid (World.grownBy.trans HC.out g)
                    replace HG := Lib.hid (World.grownBy.trans HG.out g)
                    clear g
                    have qB80 := HB8.out.1
                    have qB81 := HB8.out.2
                    have qB90 := HB9.out.1
                    have qB91 := HB9.out.2
                    have qB100 := HB10.out.1
                    have qB101 := HB10.out.2
                    have qB110 := HB11.out.1
                    have qB111 := HB11.out.2
                    have qB130 := HB13.out.1
                    have qB131 := HB13.out.2
                    have qB150 := HB15.out.1
                    have qB151 := HB15.out.2
                    have qB170 := HB17.out.1
                    have qB171 := HB17.out.2
                    have qB190 := HB19.out.1
                    have qB191 := HB19.out.2
                    have qB200 := HB20.out.1
                    have qB201 := HB20.out.2
                    have qB220 := HB22.out.1
                    have qB221 := HB22.out.2
                    have qB240 := HB24.out.1
                    have qB241 := HB24.out.2
                    have qB250 := HB25.out.1
                    have qB251 := HB25.out.2
                    have qB270 := HB27.out.1
                    have qB271 := HB27.out.2
                    have qB290 := HB29.out.1
                    have qB291 := HB29.out.2
                    have qB310 := HB31.out.1
                    have qB311 := HB31.out.2
                    have qB330 := HB33.out.1
                    have qB331 := HB33.out.2
                    have qB350 := HB35.out.1
                    have qB351 := HB35.out.2
                    have qB360 := HB36.out.1
                    have qB361 := HB36.out.2
                    go_upto_region 28 with fail
                    clear qB80 qB81 qB90 qB91 qB100 qB101 qB110 qB111 qB130 qB131 qB150 qB151 qB170 qB171 qB190 qB191 qB200 qB201 qB220 qB221 qB240 qB241 qB250 qB251 qB270 qB271 qB290 qB291 qB310 qB311 qB330 qB331 qB350 qB351 qB360 qB361
                    have qB80 := HB8.out.1
                    have qB81 := HB8.out.2
                    have qB90 := HB9.out.1
                    have qB91 := HB9.out.2
                    have qB100 := HB10.out.1
                    have qB101 := HB10.out.2
                    have qB110 := HB11.out.1
                    have qB111 := HB11.out.2
                    have qB130 := HB13.out.1
                    have qB131 := HB13.out.2
                    have qB150 := HB15.out.1
                    have qB151 := HB15.out.2
                    have qB170 := HB17.out.1
                    have qB171 := HB17.out.2
                    have qB190 := HB19.out.1
                    have qB191 := HB19.out.2
                    have qB200 := HB20.out.1
                    have qB201 := HB20.out.2
                    have qB220 := HB22.out.1
                    have qB221 := HB22.out.2
                    have qB240 := HB24.out.1
                    have qB241 := HB24.out.2
                    have qB250 := HB25.out.1
                    have qB251 := HB25.out.2
                    have qB270 := HB27.out.1
                    have qB271 := HB27.out.2
                    have qB290 := HB29.out.1
                    have qB291 := HB29.out.2
                    have qB310 := HB31.out.1
                    have qB311 := HB31.out.2
                    have qB330 := HB33.out.1
                    have qB331 := HB33.out.2
                    have qB350 := HB35.out.1
                    have qB351 := HB35.out.2
                    have qB360 := HB36.out.1
                    have qB361 := HB36.out.2
                    go_wp2_with fail
                    clear qB80 qB81 qB90 qB91 qB100 qB101 qB110 qB111 qB130 qB131 qB150 qB151 qB170 qB171 qB190 qB191 qB200 qB201 qB220 qB221 qB240 qB241 qB250 qB251 qB270 qB271 qB290 qB291 qB310 qB311 qB330 qB331 qB350 qB351 qB360 qB361
                    refine (joinV (k := qp) (j := 1) k (by omega) vLP.out vL17.out hn1 hn5 hq1 hp3 (by omega) (by omega) (by omega) (by omega) (by rw [← ELP.out, ← EL17.out]; exact EL18.out) ZLP.out ZL17.out ZL18.out _ _ _ _ _ Hr18.out Hs1.out).mono ?_
                    rintro e V40 ⟨xr20, yr20, rfl, hr, g⟩
                    replace Ha := Lib.hid (Ha.out.grown g)
                    replace Hb := Lib.hid (Hb.out.grown g)
                    replace Hc := Lib.hid (Hc.out.grown g)
                    replace Hb2 := Lib.hid (Hb2.out.grown g)
                    replace Hcj := Lib.hid (Hcj.out.grown g)
                    replace Hr1 := Lib.hid (Hr1.out.grown g)
                    replace Hr2 := Lib.hid (Hr2.out.grown g)
                    replace Hr3 := Lib.hid (Hr3.out.grown g)
                    replace Hr4 := Lib.hid (Hr4.out.grown g)
                    replace Hr6 := Lib.hid (Hr6.out.grown g)
                    replace Hr7 := Lib.hid (Hr7.out.grown g)
                    replace Hr8 := Lib.hid (Hr8.out.grown g)
                    replace Hb25x := Lib.hid (Hb25x.out.grown g)
                    replace Hr13 := Lib.hid (Hr13.out.grown g)
                    replace Hb29x := Lib.hid (Hb29x.out.grown g)
                    replace Hr16 := Lib.hid (Hr16.out.grown g)
                    replace Hr17 := Lib.hid (Hr17.out.grown g)
                    replace Hs1 := Lib.hid (Hs1.out.grown g)
                    replace Hr18 := Lib.hid (Hr18.out.grown g)
                    replace HB8 := Lib.hid (And.intro (World.grownBy.cell g HB8.out.1 (by simp)) (World.grownBy.cell g HB8.out.2 (by simp)))
                    replace HB9 := Lib.hid (And.intro (World.grownBy.cell g HB9.out.1 (by simp)) (World.grownBy.cell g HB9.out.2 (by simp)))
                    replace HB10 := Lib.hid (And.intro (World.grownBy.cell g HB10.out.1 (by simp)) (World.grownBy.cell g HB10.out.2 (by simp)))
                    replace HB11 := Lib.hid (And.intro (World.grownBy.cell g HB11.out.1 (by simp)) (World.grownBy.cell g HB11.out.2 (by simp)))
                    replace HB13 := Lib.hid (And.intro (World.grownBy.cell g HB13.out.1 (by simp)) (World.grownBy.cell g HB13.out.2 (by simp)))
                    replace HB15 := Lib.hid (And.intro (World.grownBy.cell g HB15.out.1 (by simp)) (World.grownBy.cell g HB15.out.2 (by simp)))
                    replace HB17 := Lib.hid (And.intro (World.grownBy.cell g HB17.out.1 (by simp)) (World.grownBy.cell g HB17.out.2 (by simp)))
                    replace HB19 := Lib.hid (And.intro (World.grownBy.cell g HB19.out.1 (by simp)) (World.grownBy.cell g HB19.out.2 (by simp)))
                    replace HB20 := Lib.hid (And.intro (World.grownBy.cell g HB20.out.1 (by simp)) (World.grownBy.cell g HB20.out.2 (by simp)))
                    replace HB22 := Lib.hid (And.intro (World.grownBy.cell g HB22.out.1 (by simp)) (World.grownBy.cell g HB22.out.2 (by simp)))
                    replace HB24 := Lib.hid (And.intro (World.grownBy.cell g HB24.out.1 (by simp)) (World.grownBy.cell g HB24.out.2 (by simp)))
                    replace HB25 := Lib.hid (And.intro (World.grownBy.cell g HB25.out.1 (by simp)) (World.grownBy.cell g HB25.out.2 (by simp)))
                    replace HB27 := Lib.hid (And.intro (World.grownBy.cell g HB27.out.1 (by simp)) (World.grownBy.cell g HB27.out.2 (by simp)))
                    replace HB29 := Lib.hid (And.intro (World.grownBy.cell g HB29.out.1 (by simp)) (World.grownBy.cell g HB29.out.2 (by simp)))
                    replace HB31 := Lib.hid (And.intro (World.grownBy.cell g HB31.out.1 (by simp)) (World.grownBy.cell g HB31.out.2 (by simp)))
                    replace HB33 := Lib.hid (And.intro (World.grownBy.cell g HB33.out.1 (by simp)) (World.grownBy.cell g HB33.out.2 (by simp)))
                    replace HB35 := Lib.hid (And.intro (World.grownBy.cell g HB35.out.1 (by simp)) (World.grownBy.cell g HB35.out.2 (by simp)))
                    replace HB36 := Lib.hid (And.intro (World.grownBy.cell g HB36.out.1 (by simp)) (World.grownBy.cell g HB36.out.2 (by simp)))
                    replace HC := Lib.hid (World.grownBy.trans HC.out g)
                    replace HG := Lib.hid (World.grownBy.trans HG.out g)
                    clear g
                    have Hr20 := Lib.hid hr
                    clear hr
                    have qB80 := HB8.out.1
                    have qB81 := HB8.out.2
                    have qB90 := HB9.out.1
                    have qB91 := HB9.out.2
                    have qB100 := HB10.out.1
                    have qB101 := HB10.out.2
                    have qB110 := HB11.out.1
                    have qB111 := HB11.out.2
                    have qB130 := HB13.out.1
                    have qB131 := HB13.out.2
                    have qB150 := HB15.out.1
                    have qB151 := HB15.out.2
                    have qB170 := HB17.out.1
                    have qB171 := HB17.out.2
                    have qB190 := HB19.out.1
                    have qB191 := HB19.out.2
                    have qB200 := HB20.out.1
                    have qB201 := HB20.out.2
                    have qB220 := HB22.out.1
                    have qB221 := HB22.out.2
                    have qB240 := HB24.out.1
                    have qB241 := HB24.out.2
                    have qB250 := HB25.out.1
                    have qB251 := HB25.out.2
                    have qB270 := HB27.out.1
                    have qB271 := HB27.out.2
                    have qB290 := HB29.out.1
                    have qB291 := HB29.out.2
                    have qB310 := HB31.out.1
                    have qB311 := HB31.out.2
                    have qB330 := HB33.out.1
                    have qB331 := HB33.out.2
                    have qB350 := HB35.out.1
                    have qB351 := HB35.out.2
                    have qB360 := HB36.out.1
                    have qB361 := HB36.out.2
                    go_upto_region 29 with fail
                    clear qB80 qB81 qB90 qB91 qB100 qB101 qB110 qB111 qB130 qB131 qB150 qB151 qB170 qB171 qB190 qB191 qB200 qB201 qB220 qB221 qB240 qB241 qB250 qB251 qB270 qB271 qB290 qB291 qB310 qB311 qB330 qB331 qB350 qB351 qB360 qB361
                    have hbx := one_cells V40 (.int .i64 (k : Nat)) (.slice xr20 lL18 yr20) 27
                    have g := World.grownBy_alloc V40 (.cells #[.int .i64 (k : Nat), .slice xr20 lL18 yr20] 27) none
                    obtain ⟨V41, hV41⟩ : ∃ z, World.alloc V40 (.cells #[.int .i64 (k : Nat), .slice xr20 lL18 yr20] 27) = z := ⟨_, rfl⟩
                    rw [hV41] at g hbx ⊢
                    clear hV41
                    obtain ⟨bB38, hb⟩ : ∃ b, V40.heap.size = b := ⟨_, rfl⟩
                    rw [hb] at hbx ⊢
                    clear hb
                    replace Ha := Lib.hid (Ha.out.grown g)
                    replace Hb := Lib.hid (Hb.out.grown g)
                    replace Hc := Lib.hid (Hc.out.grown g)
                    replace Hb2 := Lib.hid (Hb2.out.grown g)
                    replace Hcj := Lib.hid (Hcj.out.grown g)
                    replace Hr1 := Lib.hid (Hr1.out.grown g)
                    replace Hr2 := Lib.hid (Hr2.out.grown g)
                    replace Hr3 := Lib.hid (Hr3.out.grown g)
                    replace Hr4 := Lib.hid (Hr4.out.grown g)
                    replace Hr6 := Lib.hid (Hr6.out.grown g)
                    replace Hr7 := Lib.hid (Hr7.out.grown g)
                    replace Hr8 := Lib.hid (Hr8.out.grown g)
                    replace Hb25x := Lib.hid (Hb25x.out.grown g)
                    replace Hr13 := Lib.hid (Hr13.out.grown g)
                    replace Hb29x := Lib.hid (Hb29x.out.grown g)
                    replace Hr16 := Lib.hid (Hr16.out.grown g)
                    replace Hr17 := Lib.hid (Hr17.out.grown g)
                    replace Hs1 := Lib.hid (Hs1.out.grown g)
                    replace Hr18 := Lib.hid (Hr18.out.grown g)
                    replace Hr20 := Lib.hid (Hr20.out.grown g)
                    replace HB8 := Lib.hid (And.intro (World.grownBy.cell g HB8.out.1 (by simp)) (World.grownBy.cell g HB8.out.2 (by simp)))
                    replace HB9 := Lib.hid (And.intro (World.grownBy.cell g HB9.out.1 (by simp)) (World.grownBy.cell g HB9.out.2 (by simp)))
                    replace HB10 := Lib.hid (And.intro (World.grownBy.cell g HB10.out.1 (by simp)) (World.grownBy.cell g HB10.out.2 (by simp)))
                    replace HB11 := Lib.hid (And.intro (World.grownBy.cell g HB11.out.1 (by simp)) (World.grownBy.cell g HB11.out.2 (by simp)))
                    replace HB13 := Lib.hid (And.intro (World.grownBy.cell g HB13.out.1 (by simp)) (World.grownBy.cell g HB13.out.2 (by simp)))
                    replace HB15 := Lib.hid (And.intro (World.grownBy.cell g HB15.out.1 (by simp)) (World.grownBy.cell g HB15.out.2 (by simp)))
                    replace HB17 := Lib.hid (And.intro (World.grownBy.cell g HB17.out.1 (by simp)) (World.grownBy.cell g HB17.out.2 (by simp)))
                    replace HB19 := Lib.hid (And.intro (World.grownBy.cell g HB19.out.1 (by simp)) (World.grownBy.cell g HB19.out.2 (by simp)))
                    replace HB20 := Lib.hid (And.intro (World.grownBy.cell g HB20.out.1 (by simp)) (World.grownBy.cell g HB20.out.2 (by simp)))
                    replace HB22 := Lib.hid (And.intro (World.grownBy.cell g HB22.out.1 (by simp)) (World.grownBy.cell g HB22.out.2 (by simp)))
                    replace HB24 := Lib.hid (And.intro (World.grownBy.cell g HB24.out.1 (by simp)) (World.grownBy.cell g HB24.out.2 (by simp)))
                    replace HB25 := Lib.hid (And.intro (World.grownBy.cell g HB25.out.1 (by simp)) (World.grownBy.cell g HB25.out.2 (by simp)))
                    replace HB27 := Lib.hid (And.intro (World.grownBy.cell g HB27.out.1 (by simp)) (World.grownBy.cell g HB27.out.2 (by simp)))
                    replace HB29 := Lib.hid (And.intro (World.grownBy.cell g HB29.out.1 (by simp)) (World.grownBy.cell g HB29.out.2 (by simp)))
                    replace HB31 := Lib.hid (And.intro (World.grownBy.cell g HB31.out.1 (by simp)) (World.grownBy.cell g HB31.out.2 (by simp)))
                    replace HB33 := Lib.hid (And.intro (World.grownBy.cell g HB33.out.1 (by simp)) (World.grownBy.cell g HB33.out.2 (by simp)))
                    replace HB35 := Lib.hid (And.intro (World.grownBy.cell g HB35.out.1 (by simp)) (World.grownBy.cell g HB35.out.2 (by simp)))
                    replace HB36 := Lib.hid (And.intro (World.grownBy.cell g HB36.out.1 (by simp)) (World.grownBy.cell g HB36.out.2 (by simp)))
                    replace HC := Lib.hid (World.grownBy.trans HC.out g)
                    replace HG := Lib.hid (World.grownBy.trans HG.out g)
                    clear g
                    have HB38 := Lib.hid (And.intro hbx.2.1 hbx.2.2.1)
                    clear hbx
                    have qB80 := HB8.out.1
                    have qB81 := HB8.out.2
                    have qB90 := HB9.out.1
                    have qB91 := HB9.out.2
                    have qB100 := HB10.out.1
                    have qB101 := HB10.out.2
                    have qB110 := HB11.out.1
                    have qB111 := HB11.out.2
                    have qB130 := HB13.out.1
                    have qB131 := HB13.out.2
                    have qB150 := HB15.out.1
                    have qB151 := HB15.out.2
                    have qB170 := HB17.out.1
                    have qB171 := HB17.out.2
                    have qB190 := HB19.out.1
                    have qB191 := HB19.out.2
                    have qB200 := HB20.out.1
                    have qB201 := HB20.out.2
                    have qB220 := HB22.out.1
                    have qB221 := HB22.out.2
                    have qB240 := HB24.out.1
                    have qB241 := HB24.out.2
                    have qB250 := HB25.out.1
                    have qB251 := HB25.out.2
                    have qB270 := HB27.out.1
                    have qB271 := HB27.out.2
                    have qB290 := HB29.out.1
                    have qB291 := HB29.out.2
                    have qB310 := HB31.out.1
                    have qB311 := HB31.out.2
                    have qB330 := HB33.out.1
                    have qB331 := HB33.out.2
                    have qB350 := HB35.out.1
                    have qB351 := HB35.out.2
                    have qB360 := HB36.out.1
                    have qB361 := HB36.out.2
                    have qB380 := HB38.out.1
                    have qB381 := HB38.out.2
                    go_wp2_with fail
                    clear qB80 qB81 qB90 qB91 qB100 qB101 qB110 qB111 qB130 qB131 qB150 qB151 qB170 qB171 qB190 qB191 qB200 qB201 qB220 qB221 qB240 qB241 qB250 qB251 qB270 qB271 qB290 qB291 qB310 qB311 qB330 qB331 qB350 qB351 qB360 qB361 qB380 qB381
                    refine (equalV (k := k) (Q := true) (k : Nat) (k : Nat) vL18.out hn5 hk3 (eqQ _ Q21.out) ZL18.out ZL1.out _ _ _ _ _ Hr20.out Ha.out).mono ?_
                    rintro e V42 ⟨rfl, g⟩
                    replace Ha := Lib.hid (Ha.out.grown g)
                    replace Hb := Lib.hid (Hb.out.grown g)
                    replace Hc := Lib.hid (Hc.out.grown g)
                    replace Hb2 := Lib.hid (Hb2.out.grown g)
                    replace Hcj := Lib.hid (Hcj.out.grown g)
                    replace Hr1 := Lib.hid (Hr1.out.grown g)
                    replace Hr2 := Lib.hid (Hr2.out.grown g)
                    replace Hr3 := Lib.hid (Hr3.out.grown g)
                    replace Hr4 := Lib.hid (Hr4.out.grown g)
                    replace Hr6 := Lib.hid (Hr6.out.grown g)
                    replace Hr7 := Lib.hid (Hr7.out.grown g)
                    replace Hr8 := Lib.hid (Hr8.out.grown g)
                    replace Hb25x := Lib.hid (Hb25x.out.grown g)
                    replace Hr13 := Lib.hid (Hr13.out.grown g)
                    replace Hb29x := Lib.hid (Hb29x.out.grown g)
                    replace Hr16 := Lib.hid (Hr16.out.grown g)
                    replace Hr17 := Lib.hid (Hr17.out.grown g)
                    replace Hs1 := Lib.hid (Hs1.out.grown g)
                    replace Hr18 := Lib.hid (Hr18.out.grown g)
                    replace Hr20 := Lib.hid (Hr20.out.grown g)
                    replace HB8 := Lib.hid (And.intro (World.grownBy.cell g HB8.out.1 (by simp)) (World.grownBy.cell g HB8.out.2 (by simp)))
                    replace HB9 := Lib.hid (And.intro (World.grownBy.cell g HB9.out.1 (by simp)) (World.grownBy.cell g HB9.out.2 (by simp)))
                    replace HB10 := Lib.hid (And.intro (World.grownBy.cell g HB10.out.1 (by simp)) (World.grownBy.cell g HB10.out.2 (by simp)))
                    replace HB11 := Lib.hid (And.intro (World.grownBy.cell g HB11.out.1 (by simp)) (World.grownBy.cell g HB11.out.2 (by simp)))
                    replace HB13 := Lib.hid (And.intro (World.grownBy.cell g HB13.out.1 (by simp)) (World.grownBy.cell g HB13.out.2 (by simp)))
                    replace HB15 := Lib.hid (And.intro (World.grownBy.cell g HB15.out.1 (by simp)) (World.grownBy.cell g HB15.out.2 (by simp)))
                    replace HB17 := Lib.hid (And.intro (World.grownBy.cell g HB17.out.1 (by simp)) (World.grownBy.cell g HB17.out.2 (by simp)))
                    replace HB19 := Lib.hid (And.intro (World.grownBy.cell g HB19.out.1 (by simp)) (World.grownBy.cell g HB19.out.2 (by simp)))
                    replace HB20 := Lib.hid (And.intro (World.grownBy.cell g HB20.out.1 (by simp)) (World.grownBy.cell g HB20.out.2 (by simp)))
                    replace HB22 := Lib.hid (And.intro (World.grownBy.cell g HB22.out.1 (by simp)) (World.grownBy.cell g HB22.out.2 (by simp)))
                    replace HB24 := Lib.hid (And.intro (World.grownBy.cell g HB24.out.1 (by simp)) (World.grownBy.cell g HB24.out.2 (by simp)))
                    replace HB25 := Lib.hid (And.intro (World.grownBy.cell g HB25.out.1 (by simp)) (World.grownBy.cell g HB25.out.2 (by simp)))
                    replace HB27 := Lib.hid (And.intro (World.grownBy.cell g HB27.out.1 (by simp)) (World.grownBy.cell g HB27.out.2 (by simp)))
                    replace HB29 := Lib.hid (And.intro (World.grownBy.cell g HB29.out.1 (by simp)) (World.grownBy.cell g HB29.out.2 (by simp)))
                    replace HB31 := Lib.hid (And.intro (World.grownBy.cell g HB31.out.1 (by simp)) (World.grownBy.cell g HB31.out.2 (by simp)))
                    replace HB33 := Lib.hid (And.intro (World.grownBy.cell g HB33.out.1 (by simp)) (World.grownBy.cell g HB33.out.2 (by simp)))
                    replace HB35 := Lib.hid (And.intro (World.grownBy.cell g HB35.out.1 (by simp)) (World.grownBy.cell g HB35.out.2 (by simp)))
                    replace HB36 := Lib.hid (And.intro (World.grownBy.cell g HB36.out.1 (by simp)) (World.grownBy.cell g HB36.out.2 (by simp)))
                    replace HB38 := Lib.hid (And.intro (World.grownBy.cell g HB38.out.1 (by simp)) (World.grownBy.cell g HB38.out.2 (by simp)))
                    replace HC := Lib.hid (World.grownBy.trans HC.out g)
                    replace HG := Lib.hid (World.grownBy.trans HG.out g)
                    clear g
                    have qB80 := HB8.out.1
                    have qB81 := HB8.out.2
                    have qB90 := HB9.out.1
                    have qB91 := HB9.out.2
                    have qB100 := HB10.out.1
                    have qB101 := HB10.out.2
                    have qB110 := HB11.out.1
                    have qB111 := HB11.out.2
                    have qB130 := HB13.out.1
                    have qB131 := HB13.out.2
                    have qB150 := HB15.out.1
                    have qB151 := HB15.out.2
                    have qB170 := HB17.out.1
                    have qB171 := HB17.out.2
                    have qB190 := HB19.out.1
                    have qB191 := HB19.out.2
                    have qB200 := HB20.out.1
                    have qB201 := HB20.out.2
                    have qB220 := HB22.out.1
                    have qB221 := HB22.out.2
                    have qB240 := HB24.out.1
                    have qB241 := HB24.out.2
                    have qB250 := HB25.out.1
                    have qB251 := HB25.out.2
                    have qB270 := HB27.out.1
                    have qB271 := HB27.out.2
                    have qB290 := HB29.out.1
                    have qB291 := HB29.out.2
                    have qB310 := HB31.out.1
                    have qB311 := HB31.out.2
                    have qB330 := HB33.out.1
                    have qB331 := HB33.out.2
                    have qB350 := HB35.out.1
                    have qB351 := HB35.out.2
                    have qB360 := HB36.out.1
                    have qB361 := HB36.out.2
                    have qB380 := HB38.out.1
                    have qB381 := HB38.out.2
                    go_wp2_with fail
                    clear qB80 qB81 qB90 qB91 qB100 qB101 qB110 qB111 qB130 qB131 qB150 qB151 qB170 qB171 qB190 qB191 qB200 qB201 qB220 qB221 qB240 qB241 qB250 qB251 qB270 qB271 qB290 qB291 qB310 qB311 qB330 qB331 qB350 qB351 qB360 qB361 qB380 qB381
                    go_meet
                    exact HC.out
                  · rw [decide_eq_false hkl]
                    go_wp2_with fail
                    go_meet
                    exact grown_refl V38 none
              case rest =>
                as_aux_lemma =>
                  obtain ⟨V43, rfl⟩ : ∃ z, z = wc := ⟨_, rfl⟩
                  have g := hcut
                  replace Ha := Lib.hid (Ha.out.grown g)
                  replace Hb := Lib.hid (Hb.out.grown g)
                  replace Hc := Lib.hid (Hc.out.grown g)
                  replace Hb2 := Lib.hid (Hb2.out.grown g)
                  replace Hcj := Lib.hid (Hcj.out.grown g)
                  replace Hr1 := Lib.hid (Hr1.out.grown g)
                  replace Hr2 := Lib.hid (Hr2.out.grown g)
                  replace Hr3 := Lib.hid (Hr3.out.grown g)
                  replace Hr4 := Lib.hid (Hr4.out.grown g)
                  replace Hr6 := Lib.hid (Hr6.out.grown g)
                  replace Hr7 := Lib.hid (Hr7.out.grown g)
                  replace Hr8 := Lib.hid (Hr8.out.grown g)
                  replace Hb25x := Lib.hid (Hb25x.out.grown g)
                  replace Hr13 := Lib.hid (Hr13.out.grown g)
                  replace Hb29x := Lib.hid (Hb29x.out.grown g)
                  replace Hr16 := Lib.hid (Hr16.out.grown g)
                  replace Hr17 := Lib.hid (Hr17.out.grown g)
                  replace Hs1 := Lib.hid (Hs1.out.grown g)
                  replace Hr18 := Lib.hid (Hr18.out.grown g)
                  replace HB8 := Lib.hid (And.intro (World.grownBy.cell g HB8.out.1 (by simp)) (World.grownBy.cell g HB8.out.2 (by simp)))
                  replace HB9 := Lib.hid (And.intro (World.grownBy.cell g HB9.out.1 (by simp)) (World.grownBy.cell g HB9.out.2 (by simp)))
                  replace HB10 := Lib.hid (And.intro (World.grownBy.cell g HB10.out.1 (by simp)) (World.grownBy.cell g HB10.out.2 (by simp)))
                  replace HB11 := Lib.hid (And.intro (World.grownBy.cell g HB11.out.1 (by simp)) (World.grownBy.cell g HB11.out.2 (by simp)))
                  replace HB13 := Lib.hid (And.intro (World.grownBy.cell g HB13.out.1 (by simp)) (World.grownBy.cell g HB13.out.2 (by simp)))
                  replace HB15 := Lib.hid (And.intro (World.grownBy.cell g HB15.out.1 (by simp)) (World.grownBy.cell g HB15.out.2 (by simp)))
                  replace HB17 := Lib.hid (And.intro (World.grownBy.cell g HB17.out.1 (by simp)) (World.grownBy.cell g HB17.out.2 (by simp)))
                  replace HB19 := Lib.hid (And.intro (World.grownBy.cell g HB19.out.1 (by simp)) (World.grownBy.cell g HB19.out.2 (by simp)))
                  replace HB20 := Lib.hid (And.intro (World.grownBy.cell g HB20.out.1 (by simp)) (World.grownBy.cell g HB20.out.2 (by simp)))
                  replace HB22 := Lib.hid (And.intro (World.grownBy.cell g HB22.out.1 (by simp)) (World.grownBy.cell g HB22.out.2 (by simp)))
                  replace HB24 := Lib.hid (And.intro (World.grownBy.cell g HB24.out.1 (by simp)) (World.grownBy.cell g HB24.out.2 (by simp)))
                  replace HB25 := Lib.hid (And.intro (World.grownBy.cell g HB25.out.1 (by simp)) (World.grownBy.cell g HB25.out.2 (by simp)))
                  replace HB27 := Lib.hid (And.intro (World.grownBy.cell g HB27.out.1 (by simp)) (World.grownBy.cell g HB27.out.2 (by simp)))
                  replace HB29 := Lib.hid (And.intro (World.grownBy.cell g HB29.out.1 (by simp)) (World.grownBy.cell g HB29.out.2 (by simp)))
                  replace HB31 := Lib.hid (And.intro (World.grownBy.cell g HB31.out.1 (by simp)) (World.grownBy.cell g HB31.out.2 (by simp)))
                  replace HB33 := Lib.hid (And.intro (World.grownBy.cell g HB33.out.1 (by simp)) (World.grownBy.cell g HB33.out.2 (by simp)))
                  replace HB35 := Lib.hid (And.intro (World.grownBy.cell g HB35.out.1 (by simp)) (World.grownBy.cell g HB35.out.2 (by simp)))
                  replace HB36 := Lib.hid (And.intro (World.grownBy.cell g HB36.out.1 (by simp)) (World.grownBy.cell g HB36.out.2 (by simp)))
                  replace HG := Lib.hid (World.grownBy.trans HG.out g)
                  clear g
                  have qB80 := HB8.out.1
                  have qB81 := HB8.out.2
                  have qB90 := HB9.out.1
                  have qB91 := HB9.out.2
                  have qB100 := HB10.out.1
                  have qB101 := HB10.out.2
                  have qB110 := HB11.out.1
                  have qB111 := HB11.out.2
                  have qB130 := HB13.out.1
                  have qB131 := HB13.out.2
                  have qB150 := HB15.out.1
                  have qB151 := HB15.out.2
                  have qB170 := HB17.out.1
                  have qB171 := HB17.out.2
                  have qB190 := HB19.out.1
                  have qB191 := HB19.out.2
                  have qB200 := HB20.out.1
                  have qB201 := HB20.out.2
                  have qB220 := HB22.out.1
                  have qB221 := HB22.out.2
                  have qB240 := HB24.out.1
                  have qB241 := HB24.out.2
                  have qB250 := HB25.out.1
                  have qB251 := HB25.out.2
                  have qB270 := HB27.out.1
                  have qB271 := HB27.out.2
                  have qB290 := HB29.out.1
                  have qB291 := HB29.out.2
                  have qB310 := HB31.out.1
                  have qB311 := HB31.out.2
                  have qB330 := HB33.out.1
                  have qB331 := HB33.out.2
                  have qB350 := HB35.out.1
                  have qB351 := HB35.out.2
                  have qB360 := HB36.out.1
                  have qB361 := HB36.out.2
                  go_upto_region 31 with fail
                  clear qB80 qB81 qB90 qB91 qB100 qB101 qB110 qB111 qB130 qB131 qB150 qB151 qB170 qB171 qB190 qB191 qB200 qB201 qB220 qB221 qB240 qB241 qB250 qB251 qB270 qB271 qB290 qB291 qB310 qB311 qB330 qB331 qB350 qB351 qB360 qB361
                  have HS := Lib.hid (fun (Wh : World) (hWh : V43.grownBy Wh none) => (⟨hWh, hWh.cell HB8.out.1 (by simp), hWh.cell HB8.out.2 (by simp), hWh.cell HB9.out.1 (by simp), hWh.cell HB9.out.2 (by simp), hWh.cell HB10.out.1 (by simp), hWh.cell HB10.out.2 (by simp), hWh.cell HB11.out.1 (by simp), hWh.cell HB11.out.2 (by simp), hWh.cell HB13.out.1 (by simp), hWh.cell HB13.out.2 (by simp), hWh.cell HB15.out.1 (by simp), hWh.cell HB15.out.2 (by simp), hWh.cell HB17.out.1 (by simp), hWh.cell HB17.out.2 (by simp), hWh.cell HB19.out.1 (by simp), hWh.cell HB19.out.2 (by simp), hWh.cell HB20.out.1 (by simp), hWh.cell HB20.out.2 (by simp), hWh.cell HB22.out.1 (by simp), hWh.cell HB22.out.2 (by simp), hWh.cell HB24.out.1 (by simp), hWh.cell HB24.out.2 (by simp), hWh.cell HB25.out.1 (by simp), hWh.cell HB25.out.2 (by simp), hWh.cell HB27.out.1 (by simp), hWh.cell HB27.out.2 (by simp), hWh.cell HB29.out.1 (by simp), hWh.cell HB29.out.2 (by simp), hWh.cell HB31.out.1 (by simp), hWh.cell HB31.out.2 (by simp), hWh.cell HB33.out.1 (by simp), hWh.cell HB33.out.2 (by simp), hWh.cell HB35.out.1 (by simp), hWh.cell HB35.out.2 (by simp), hWh.cell HB36.out.1 (by simp), hWh.cell HB36.out.2 (by simp)⟩ : (fun Wh : World => V43.grownBy Wh none ∧ Wh.cell? ⟨bB8, 0, none⟩ = some (.int .i64 (k : Nat)) ∧ Wh.cell? ⟨bB8, 1, none⟩ = some (.slice xa lL1 ya) ∧ Wh.cell? ⟨bB9, 0, none⟩ = some (.int .i64 2) ∧ Wh.cell? ⟨bB9, 1, none⟩ = some (.slice xb2 lL4 yb2) ∧ Wh.cell? ⟨bB10, 0, none⟩ = some (.int .i64 (j : Nat)) ∧ Wh.cell? ⟨bB10, 1, none⟩ = some (.slice xcj lL5 ycj) ∧ Wh.cell? ⟨bB11, 0, none⟩ = some (.int .i64 (k : Nat)) ∧ Wh.cell? ⟨bB11, 1, none⟩ = some (.slice xr1 lL6 yr1) ∧ Wh.cell? ⟨bB13, 0, none⟩ = some (.int .i64 (j : Nat)) ∧ Wh.cell? ⟨bB13, 1, none⟩ = some (.slice xr2 lL7 yr2) ∧ Wh.cell? ⟨bB15, 0, none⟩ = some (.int .i64 (qq : Nat)) ∧ Wh.cell? ⟨bB15, 1, none⟩ = some (.slice xr3 lLQ yr3) ∧ Wh.cell? ⟨bB17, 0, none⟩ = some (.int .i64 (qq : Nat)) ∧ Wh.cell? ⟨bB17, 1, none⟩ = some (.slice xr4 lLQ yr4) ∧ Wh.cell? ⟨bB19, 0, none⟩ = some (.int .i64 2) ∧ Wh.cell? ⟨bB19, 1, none⟩ = some (.slice xr6 lL8 yr6) ∧ Wh.cell? ⟨bB20, 0, none⟩ = some (.int .i64 (k : Nat)) ∧ Wh.cell? ⟨bB20, 1, none⟩ = some (.slice xr7 lL9 yr7) ∧ Wh.cell? ⟨bB22, 0, none⟩ = some (.int .i64 (k : Nat)) ∧ Wh.cell? ⟨bB22, 1, none⟩ = some (.slice xr8 lL10 yr8) ∧ Wh.cell? ⟨bB24, 0, none⟩ = some (.int .i64 (k : Nat)) ∧ Wh.cell? ⟨bB24, 1, none⟩ = some (.slice xb lL2 yb) ∧ Wh.cell? ⟨bB25, 0, none⟩ = some (.int .i64 ((k : Nat) : Int)) ∧ Wh.cell? ⟨bB25, 1, none⟩ = some (.slice xb25x lL12 yb25x) ∧ Wh.cell? ⟨bB27, 0, none⟩ = some (.int .i64 (k : Nat)) ∧ Wh.cell? ⟨bB27, 1, none⟩ = some (.slice xr13 lL13 yr13) ∧ Wh.cell? ⟨bB29, 0, none⟩ = some (.int .i64 ((k : Nat) : Int)) ∧ Wh.cell? ⟨bB29, 1, none⟩ = some (.slice xb29x lL14 yb29x) ∧ Wh.cell? ⟨bB31, 0, none⟩ = some (.int .i64 (k : Nat)) ∧ Wh.cell? ⟨bB31, 1, none⟩ = some (.slice xr16 lL15 yr16) ∧ Wh.cell? ⟨bB33, 0, none⟩ = some (.int .i64 (k : Nat)) ∧ Wh.cell? ⟨bB33, 1, none⟩ = some (.slice xr17 lL16 yr17) ∧ Wh.cell? ⟨bB35, 0, none⟩ = some (.int .i64 1) ∧ Wh.cell? ⟨bB35, 1, none⟩ = some (.slice xs1 lL17 ys1) ∧ Wh.cell? ⟨bB36, 0, none⟩ = some (.int .i64 (qp : Nat)) ∧ Wh.cell? ⟨bB36, 1, none⟩ = some (.slice xr18 lLP yr18)) Wh))
                  have hdr : V43.grownBy V43.drew none := ⟨rfl, rfl, rfl, Nat.le_refl _, fun _ _ _ => rfl⟩
                  refine wp_region_held_drew (S := (fun Wh : World => V43.grownBy Wh none ∧ Wh.cell? ⟨bB8, 0, none⟩ = some (.int .i64 (k : Nat)) ∧ Wh.cell? ⟨bB8, 1, none⟩ = some (.slice xa lL1 ya) ∧ Wh.cell? ⟨bB9, 0, none⟩ = some (.int .i64 2) ∧ Wh.cell? ⟨bB9, 1, none⟩ = some (.slice xb2 lL4 yb2) ∧ Wh.cell? ⟨bB10, 0, none⟩ = some (.int .i64 (j : Nat)) ∧ Wh.cell? ⟨bB10, 1, none⟩ = some (.slice xcj lL5 ycj) ∧ Wh.cell? ⟨bB11, 0, none⟩ = some (.int .i64 (k : Nat)) ∧ Wh.cell? ⟨bB11, 1, none⟩ = some (.slice xr1 lL6 yr1) ∧ Wh.cell? ⟨bB13, 0, none⟩ = some (.int .i64 (j : Nat)) ∧ Wh.cell? ⟨bB13, 1, none⟩ = some (.slice xr2 lL7 yr2) ∧ Wh.cell? ⟨bB15, 0, none⟩ = some (.int .i64 (qq : Nat)) ∧ Wh.cell? ⟨bB15, 1, none⟩ = some (.slice xr3 lLQ yr3) ∧ Wh.cell? ⟨bB17, 0, none⟩ = some (.int .i64 (qq : Nat)) ∧ Wh.cell? ⟨bB17, 1, none⟩ = some (.slice xr4 lLQ yr4) ∧ Wh.cell? ⟨bB19, 0, none⟩ = some (.int .i64 2) ∧ Wh.cell? ⟨bB19, 1, none⟩ = some (.slice xr6 lL8 yr6) ∧ Wh.cell? ⟨bB20, 0, none⟩ = some (.int .i64 (k : Nat)) ∧ Wh.cell? ⟨bB20, 1, none⟩ = some (.slice xr7 lL9 yr7) ∧ Wh.cell? ⟨bB22, 0, none⟩ = some (.int .i64 (k : Nat)) ∧ Wh.cell? ⟨bB22, 1, none⟩ = some (.slice xr8 lL10 yr8) ∧ Wh.cell? ⟨bB24, 0, none⟩ = some (.int .i64 (k : Nat)) ∧ Wh.cell? ⟨bB24, 1, none⟩ = some (.slice xb lL2 yb) ∧ Wh.cell? ⟨bB25, 0, none⟩ = some (.int .i64 ((k : Nat) : Int)) ∧ Wh.cell? ⟨bB25, 1, none⟩ = some (.slice xb25x lL12 yb25x) ∧ Wh.cell? ⟨bB27, 0, none⟩ = some (.int .i64 (k : Nat)) ∧ Wh.cell? ⟨bB27, 1, none⟩ = some (.slice xr13 lL13 yr13) ∧ Wh.cell? ⟨bB29, 0, none⟩ = some (.int .i64 ((k : Nat) : Int)) ∧ Wh.cell? ⟨bB29, 1, none⟩ = some (.slice xb29x lL14 yb29x) ∧ Wh.cell? ⟨bB31, 0, none⟩ = some (.int .i64 (k : Nat)) ∧ Wh.cell? ⟨bB31, 1, none⟩ = some (.slice xr16 lL15 yr16) ∧ Wh.cell? ⟨bB33, 0, none⟩ = some (.int .i64 (k : Nat)) ∧ Wh.cell? ⟨bB33, 1, none⟩ = some (.slice xr17 lL16 yr17) ∧ Wh.cell? ⟨bB35, 0, none⟩ = some (.int .i64 1) ∧ Wh.cell? ⟨bB35, 1, none⟩ = some (.slice xs1 lL17 ys1) ∧ Wh.cell? ⟨bB36, 0, none⟩ = some (.int .i64 (qp : Nat)) ∧ Wh.cell? ⟨bB36, 1, none⟩ = some (.slice xr18 lLP yr18))) (by kernel_rfl) (HS.out _ hdr) (fun hHeld => ?_)
                  refine wpAnyH_take (i := 0) (oi := { dst := some 210, op := Op.move (Operand.tmp 5), type := 4, pos := "law.go:151", after := #[], guard := none }) (v := ?_) rfl (by kernel_rfl) (by kernel_rfl) (by kernel_rfl) (fun _ _ _ h => h) (Or.inl ⟨by rfl, ?_⟩) (by assumption) ?_
                  rotate_left 1
                  · (intro W hSW; (try dsimp only at hSW); first | (go_simp; done) | (go_simp; with_reducible rfl))
                  try simp only [Act.put, List.setIfInBounds_toArray, List.set_cons_zero, List.set_cons_succ]
                  refine wpAnyH_take (i := 1) (oi := { dst := some 211, op := Op.move (Operand.tmp 210), type := 4, pos := "law.go:151", after := #[{ on := 0, ground := Ground.data }], guard := none }) (v := ?_) rfl (by kernel_rfl) (by kernel_rfl) (by kernel_rfl) (fun _ _ _ h => h) (Or.inl ⟨by rfl, ?_⟩) (by assumption) ?_
                  rotate_left 1
                  · (intro W hSW; (try dsimp only at hSW); first | (go_simp; done) | (go_simp; with_reducible rfl))
                  try simp only [Act.put, List.setIfInBounds_toArray, List.set_cons_zero, List.set_cons_succ]
                  refine wpAnyH_take (i := 2) (oi := { dst := some 212, op := Op.load 27 (Operand.tmp 25), type := 27, pos := "law.go:151", after := #[{ on := 1, ground := Ground.guard }], guard := some (1, true) }) (v := ?_) rfl (by kernel_rfl) (by kernel_rfl) (by kernel_rfl) (fun _ _ _ h => h) (Or.inl ⟨by rfl, ?_⟩) (by assumption) ?_
                  rotate_left 1
                  · (intro W hSW; (try dsimp only at hSW); first | (go_simp; done) | (go_simp; with_reducible rfl))
                  try simp only [Act.put, List.setIfInBounds_toArray, List.set_cons_zero, List.set_cons_succ]
                  refine wpAnyH_take (i := 3) (oi := { dst := some 213, op := Op.load 27 (Operand.tmp 11), type := 27, pos := "law.go:151", after := #[{ on := 1, ground := Ground.guard }], guard := some (1, true) }) (v := ?_) rfl (by kernel_rfl) (by kernel_rfl) (by kernel_rfl) (fun _ _ _ h => h) (Or.inl ⟨by rfl, ?_⟩) (by assumption) ?_
                  rotate_left 1
                  · (intro W hSW; (try dsimp only at hSW); first | (go_simp; done) | (go_simp; with_reducible rfl))
                  try simp only [Act.put, List.setIfInBounds_toArray, List.set_cons_zero, List.set_cons_succ]
                  refine wpAnyH_take (i := 4) (oi := { dst := some 214, op := Op.load 27 (Operand.tmp 27), type := 27, pos := "law.go:151", after := #[{ on := 1, ground := Ground.guard }], guard := some (1, true) }) (v := ?_) rfl (by kernel_rfl) (by kernel_rfl) (by kernel_rfl) (fun _ _ _ h => h) (Or.inl ⟨by rfl, ?_⟩) (by assumption) ?_
                  rotate_left 1
                  · (intro W hSW; (try dsimp only at hSW); first | (go_simp; done) | (go_simp; with_reducible rfl))
                  try simp only [Act.put, List.setIfInBounds_toArray, List.set_cons_zero, List.set_cons_succ]
                  refine wpAnyH_ready (rs := [5]) (by kernel_rfl) (by simp) ?_
                  refine (AllReadyH.cons (o := { dst := some 215, op := Op.call { callee := Callee.value (Operand.func 27), args := #[Operand.tmp 213, Operand.tmp 214], argTypes := #[27, 27] }, type := 27, pos := "law.go:151", after := #[{ on := 3, ground := Ground.data }, { on := 4, ground := Ground.data }, { on := 1, ground := Ground.chain }, { on := 1, ground := Ground.guard }], guard := some (1, true) }) rfl (fun K hK => ?_) AllReadyH.nil)
                  rw [if_pos (by rfl)]
                  go_simp
                  go_at_call 27
                  refine (unionV (k : Nat) (k : Nat) vL6.out vL13.out hn5 hk3 (by rw [← EL6.out, ← EL13.out]; exact EL19.out) ZL6.out ZL13.out ZL19.out _ _ _ _ _ (Hr1.out.grown hdr) (Hr13.out.grown hdr)).mono ?_
                  rintro e wc5 ⟨xr22, yr22, rfl, hrr22, gc5⟩
                  have hgr5 := World.grownBy.trans hdr gc5
                  go_wp2_with fail
                  refine hK.out _ _ (HS.out _ hgr5) (fun hHeld => ?_)
                  clear hK K
                  try simp only [Act.put, List.setIfInBounds_toArray, List.set_cons_zero, List.set_cons_succ]
                  refine wpAnyH_ready (rs := [6]) (by kernel_rfl) (by simp) ?_
                  refine (AllReadyH.cons (o := { dst := some 216, op := Op.call { callee := Callee.value (Operand.func 19), args := #[Operand.tmp 212, Operand.tmp 215], argTypes := #[27, 27] }, type := 4, pos := "law.go:151", after := #[{ on := 2, ground := Ground.data }, { on := 5, ground := Ground.data }, { on := 5, ground := Ground.chain }, { on := 1, ground := Ground.guard }], guard := some (1, true) }) rfl (fun K hK => ?_) AllReadyH.nil)
                  rw [if_pos (by rfl)]
                  go_simp
                  go_at_call 19
                  refine (equalV (k := k) (Q := true) (k : Nat) (k : Nat) vL12.out hn5 hk3 (eqQ _ Q23.out) ZL12.out ZL19.out _ _ _ _ _ (Hb25x.out.grown hgr5) hrr22).mono ?_
                  rintro e wc6 ⟨rfl, gc6⟩
                  have hgr6 := World.grownBy.trans hgr5 gc6
                  go_wp2_with fail
                  refine hK.out _ _ (HS.out _ hgr6) (fun hHeld => ?_)
                  clear hK K
                  try simp only [Act.put, List.setIfInBounds_toArray, List.set_cons_zero, List.set_cons_succ]
                  refine wpAnyH_take (i := 7) (oi := { dst := some 217, op := Op.pick (Operand.tmp 211) (Operand.tmp 216) (Operand.const (Value.bool false)), type := 4, pos := "law.go:151", after := #[{ on := 1, ground := Ground.data }, { on := 6, ground := Ground.data }], guard := none }) (v := ?_) rfl (by kernel_rfl) (by kernel_rfl) (by kernel_rfl) (fun _ _ _ h => h) (Or.inl ⟨by rfl, ?_⟩) (by assumption) ?_
                  rotate_left 1
                  · (intro W hSW; (try dsimp only at hSW); first | (go_simp; done) | (go_simp; with_reducible rfl))
                  try simp only [Act.put, List.setIfInBounds_toArray, List.set_cons_zero, List.set_cons_succ]
                  refine wpAnyH_take (i := 8) (oi := { dst := some 218, op := Op.move (Operand.tmp 217), type := 4, pos := "law.go:151", after := #[{ on := 7, ground := Ground.data }, { on := 6, ground := Ground.chain }], guard := none }) (v := ?_) rfl (by kernel_rfl) (by kernel_rfl) (by kernel_rfl) (fun _ _ _ h => h) (Or.inl ⟨by rfl, ?_⟩) (by assumption) ?_
                  rotate_left 1
                  · (intro W hSW; (try dsimp only at hSW); first | (go_simp; done) | (go_simp; with_reducible rfl))
                  try simp only [Act.put, List.setIfInBounds_toArray, List.set_cons_zero, List.set_cons_succ]
                  refine wpAnyH_take (i := 9) (oi := { dst := some 219, op := Op.load 27 (Operand.tmp 29), type := 27, pos := "law.go:151", after := #[{ on := 8, ground := Ground.guard }], guard := some (8, true) }) (v := ?_) rfl (by kernel_rfl) (by kernel_rfl) (by kernel_rfl) (fun _ _ _ h => h) (Or.inl ⟨by rfl, ?_⟩) (by assumption) ?_
                  rotate_left 1
                  · (intro W hSW; (try dsimp only at hSW); first | (go_simp; done) | (go_simp; with_reducible rfl))
                  try simp only [Act.put, List.setIfInBounds_toArray, List.set_cons_zero, List.set_cons_succ]
                  refine wpAnyH_take (i := 10) (oi := { dst := some 220, op := Op.load 27 (Operand.tmp 31), type := 27, pos := "law.go:151", after := #[{ on := 8, ground := Ground.guard }], guard := some (8, true) }) (v := ?_) rfl (by kernel_rfl) (by kernel_rfl) (by kernel_rfl) (fun _ _ _ h => h) (Or.inl ⟨by rfl, ?_⟩) (by assumption) ?_
                  rotate_left 1
                  · (intro W hSW; (try dsimp only at hSW); first | (go_simp; done) | (go_simp; with_reducible rfl))
                  try simp only [Act.put, List.setIfInBounds_toArray, List.set_cons_zero, List.set_cons_succ]
                  refine wpAnyH_take (i := 11) (oi := { dst := some 221, op := Op.load 27 (Operand.tmp 33), type := 27, pos := "law.go:151", after := #[{ on := 8, ground := Ground.guard }], guard := some (8, true) }) (v := ?_) rfl (by kernel_rfl) (by kernel_rfl) (by kernel_rfl) (fun _ _ _ h => h) (Or.inl ⟨by rfl, ?_⟩) (by assumption) ?_
                  rotate_left 1
                  · (intro W hSW; (try dsimp only at hSW); first | (go_simp; done) | (go_simp; with_reducible rfl))
                  try simp only [Act.put, List.setIfInBounds_toArray, List.set_cons_zero, List.set_cons_succ]
                  refine wpAnyH_ready (rs := [12]) (by kernel_rfl) (by simp) ?_
                  refine (AllReadyH.cons (o := { dst := some 222, op := Op.call { callee := Callee.value (Operand.func 27), args := #[Operand.tmp 220, Operand.tmp 221], argTypes := #[27, 27] }, type := 27, pos := "law.go:151", after := #[{ on := 10, ground := Ground.data }, { on := 11, ground := Ground.data }, { on := 8, ground := Ground.chain }, { on := 8, ground := Ground.guard }], guard := some (8, true) }) rfl (fun K hK => ?_) AllReadyH.nil)
                  rw [if_pos (by rfl)]
                  go_simp
                  go_at_call 27
                  refine (unionV (k : Nat) (k : Nat) vL15.out vL16.out hn5 hk3 (by rw [← EL15.out, ← EL16.out]; exact EL20.out) ZL15.out ZL16.out ZL20.out _ _ _ _ _ (Hr16.out.grown hgr6) (Hr17.out.grown hgr6)).mono ?_
                  rintro e wc12 ⟨xr24, yr24, rfl, hrr24, gc12⟩
                  have hgr12 := World.grownBy.trans hgr6 gc12
                  go_wp2_with fail
                  refine hK.out _ _ (HS.out _ hgr12) (fun hHeld => ?_)
                  clear hK K
                  try simp only [Act.put, List.setIfInBounds_toArray, List.set_cons_zero, List.set_cons_succ]
                  refine wpAnyH_ready (rs := [13]) (by kernel_rfl) (by simp) ?_
                  refine (AllReadyH.cons (o := { dst := some 223, op := Op.call { callee := Callee.value (Operand.func 19), args := #[Operand.tmp 219, Operand.tmp 222], argTypes := #[27, 27] }, type := 4, pos := "law.go:151", after := #[{ on := 9, ground := Ground.data }, { on := 12, ground := Ground.data }, { on := 12, ground := Ground.chain }, { on := 8, ground := Ground.guard }], guard := some (8, true) }) rfl (fun K hK => ?_) AllReadyH.nil)
                  rw [if_pos (by rfl)]
                  go_simp
                  go_at_call 19
                  refine (equalV (k := k) (Q := true) (k : Nat) (k : Nat) vL14.out hn5 hk3 (eqQ _ Q25.out) ZL14.out ZL20.out _ _ _ _ _ (Hb29x.out.grown hgr12) hrr24).mono ?_
                  rintro e wc13 ⟨rfl, gc13⟩
                  have hgr13 := World.grownBy.trans hgr12 gc13
                  go_wp2_with fail
                  refine hK.out _ _ (HS.out _ hgr13) (fun hHeld => ?_)
                  clear hK K
                  try simp only [Act.put, List.setIfInBounds_toArray, List.set_cons_zero, List.set_cons_succ]
                  refine wpAnyH_take (i := 14) (oi := { dst := some 224, op := Op.pick (Operand.tmp 218) (Operand.tmp 223) (Operand.const (Value.bool false)), type := 4, pos := "law.go:151", after := #[{ on := 8, ground := Ground.data }, { on := 13, ground := Ground.data }], guard := none }) (v := ?_) rfl (by kernel_rfl) (by kernel_rfl) (by kernel_rfl) (fun _ _ _ h => h) (Or.inl ⟨by rfl, ?_⟩) (by assumption) ?_
                  rotate_left 1
                  · (intro W hSW; (try dsimp only at hSW); first | (go_simp; done) | (go_simp; with_reducible rfl))
                  try simp only [Act.put, List.setIfInBounds_toArray, List.set_cons_zero, List.set_cons_succ]
                  refine wpAnyH_take (i := 15) (oi := { dst := some 4, op := Op.assign (Operand.tmp 224), type := 4, pos := "law.go:151", after := #[{ on := 14, ground := Ground.data }, { on := 13, ground := Ground.chain }, { on := 0, ground := Ground.phase }, { on := 1, ground := Ground.phase }, { on := 2, ground := Ground.phase }, { on := 3, ground := Ground.phase }, { on := 4, ground := Ground.phase }, { on := 5, ground := Ground.phase }, { on := 6, ground := Ground.phase }, { on := 7, ground := Ground.phase }, { on := 8, ground := Ground.phase }, { on := 9, ground := Ground.phase }, { on := 10, ground := Ground.phase }, { on := 11, ground := Ground.phase }, { on := 12, ground := Ground.phase }, { on := 13, ground := Ground.phase }, { on := 14, ground := Ground.phase }], guard := none }) (v := ?_) rfl (by kernel_rfl) (by kernel_rfl) (by kernel_rfl) (fun _ _ _ h => h) (Or.inl ⟨by rfl, ?_⟩) (by assumption) ?_
                  rotate_left 1
                  · (intro W hSW; (try dsimp only at hSW); first | (go_simp; done) | (go_simp; with_reducible rfl))
                  try simp only [Act.put, List.setIfInBounds_toArray, List.set_cons_zero, List.set_cons_succ]
                  refine wpAnyH_done (by kernel_rfl) ?_ _
                  have hEND := hgr13
                  clear hHeld
                  have HE := Lib.hid (World.grownBy.trans HG.out hEND)
                  clear hEND
                  go_wp2_with fail
                  go_ret
                  exact ⟨rfl, HE.out⟩
end Go.Proofs.Ytkoigonbncpbaaa
