/- RelationMatchesReference: the law walked. -/
import Derived.Test.YtkoigonbncpbaaaM3
import Derived.Test.YtkoigonbncpbaaaC1
import Derived.Deep.DeepCutAuto
namespace Go.Proofs.Ytkoigonbncpbaaa
open Go.RowKit Go.Shelf

set_option maxRecDepth 100000 in
set_option maxHeartbeats 20000000 in
theorem matches_short (N Ar : Nat) (A0 B0 C0 : List Nat) (aa ab ac : Option Addr) (ca cb cc : Nat) (z : Nat) (kr : Int) (Tr : List Int) (ar : Option Addr) (cr : Nat) (ko : Int) (Tw : List Int) (ao : Option Addr) (co : Nat) (m : Int) (W0 : World) (h : RawAt W0 N Ar A0 B0 C0 aa ab ac ca cb cc) (hz : z < 256) (hir : IntsW W0 ar cr Tr) (hlr : (Tr.length : Int) ≤ 9223372036854775807) (hio : IntsW W0 ao co Tw) (_hlo : (Tw.length : Int) ≤ 9223372036854775807) (_hm : -9223372036854775808 ≤ m ∧ m ≤ 9223372036854775807) (hsr : Tr.length ≤ 300) (hsw : Tw.length ≤ 300) :
    Calls Try.prog 3 #[.agg #[.int .u8 (N : Int), .int .u8 (Ar : Int), .slice aa A0.length ca, .slice ab B0.length cb, .slice ac C0.length cc], .int .u8 (z : Int), .agg #[.int .i64 kr, .slice ar Tr.length cr], .agg #[.int .i64 ko, .slice ao Tw.length co], .int .i64 m] W0 fun e w' => e = .returned (.bool true) ∧ W0.grownBy w' none := by
  have hAr := h.hAr
  obtain ⟨n, hn⟩ : ∃ n, 1 + N % 5 = n := ⟨_, rfl⟩
  obtain ⟨k, hk⟩ : ∃ k, 1 + Ar % 3 = k := ⟨_, rfl⟩
  have hn1 : 1 ≤ n := by omega
  have hn5 : n ≤ 5 := by omega
  have hk1 : 1 ≤ k := by omega
  have hk3 : k ≤ 3 := by omega
  have hNN := Lib.hid hn; have hKK := Lib.hid hk
  clear hn hk hAr
  obtain ⟨r, hr⟩ : ∃ r, z % 3 = r := ⟨_, rfl⟩
  obtain ⟨j, hj⟩ : ∃ j, 1 + r = j := ⟨_, rfl⟩
  have hmod : (z : Int).tmod 3 = (r : Int) := by rw [Int.tmod_eq_emod_of_nonneg (by omega)]; omega
  have hwn : IntKind.i64.wrap (z : Int) = (z : Int) := IntWalk.i64_in _ (by omega)
  have hws : IntKind.i64.wrap (1 + (r : Int)) = (j : Int) := by rw [IntWalk.i64_in _ (by omega)]; omega
  have HJ3 := Lib.hid (And.intro hmod (And.intro hwn hws))
  have hj1 : 1 ≤ j := by omega
  have hj3 : j ≤ 3 := by omega
  clear hmod hwn hws hj hr
  have hnr : Tr.length ≤ 300 := by omega
  have hnw : Tw.length ≤ 300 := by omega
  obtain ⟨VM, hVM⟩ : ∃ b, relValid m kr Tr = b := ⟨_, rfl⟩
  obtain ⟨VN, hVN⟩ : ∃ b, relValid (n : Int) kr Tr = b := ⟨_, rfl⟩
  obtain ⟨EQ, hEQ⟩ : ∃ b, decide (((kr, Tr) : Rl) = (ko, Tw)) = b := ⟨_, rfl⟩
  have HV17M := Lib.hid (show ∀ (U : World) (a : Option Addr) (c : Nat), IntsW U a c Tr → Calls Try.prog 17 #[.int .i64 m, .agg #[.int .i64 kr, .slice a Tr.length c]] U fun e w' => e = .returned (.bool VM) ∧ U.grownBy w' none from fun U a c hi => by
    have h := relValid_calls m kr Tr a c U hi (by omega)
    rw [hVM] at h
    exact h)
  have HV17N := Lib.hid (show ∀ (U : World) (a : Option Addr) (c : Nat), IntsW U a c Tr → Calls Try.prog 17 #[.int .i64 (n : Int), .agg #[.int .i64 kr, .slice a Tr.length c]] U fun e w' => e = .returned (.bool VN) ∧ U.grownBy w' none from fun U a c hi => by
    have h := relValid_calls (n : Int) kr Tr a c U hi (by omega)
    rw [hVN] at h
    exact h)
  have HV18M := Lib.hid (show ∀ (U : World) (a : Option Addr) (c : Nat), IntsW U a c Tr → Calls Try.prog 18 #[.int .i64 m, .agg #[.int .i64 kr, .slice a Tr.length c]] U fun e w' => e = .returned (.bool VM) ∧ U.grownBy w' none from fun U a c hi => by
    have h := tValid_calls m kr Tr a c U hi (by omega)
    rw [hVM] at h
    exact h)
  have HV18N := Lib.hid (show ∀ (U : World) (a : Option Addr) (c : Nat), IntsW U a c Tr → Calls Try.prog 18 #[.int .i64 (n : Int), .agg #[.int .i64 kr, .slice a Tr.length c]] U fun e w' => e = .returned (.bool VN) ∧ U.grownBy w' none from fun U a c hi => by
    have h := tValid_calls (n : Int) kr Tr a c U hi (by omega)
    rw [hVN] at h
    exact h)
  have HE19 := Lib.hid (show ∀ (U : World) (a : Option Addr) (c : Nat) (a' : Option Addr) (c' : Nat), IntsW U a c Tr → IntsW U a' c' Tw → Calls Try.prog 19 #[.agg #[.int .i64 kr, .slice a Tr.length c], .agg #[.int .i64 ko, .slice a' Tw.length c']] U fun e w' => e = .returned (.bool EQ) ∧ U.grownBy w' none from fun U a c a' c' hi hi' => by
    have h := relEqual_calls (kr, Tr) (ko, Tw) a a' c c' U hi hi' hlr
    rw [hEQ] at h
    exact h)
  have HE20 := Lib.hid (show ∀ (U : World) (a : Option Addr) (c : Nat) (a' : Option Addr) (c' : Nat), IntsW U a c Tr → IntsW U a' c' Tw → Calls Try.prog 20 #[.agg #[.int .i64 kr, .slice a Tr.length c], .agg #[.int .i64 ko, .slice a' Tw.length c']] U fun e w' => e = .returned (.bool EQ) ∧ U.grownBy w' none from fun U a c a' c' hi hi' => by
    have h := rRelEqual_calls (kr, Tr) (ko, Tw) a a' c c' U hi hi' hlr
    rw [hEQ] at h
    exact h)
  have HE19S := Lib.hid (show ∀ (U : World) (a : Option Addr) (c : Nat), IntsW U a c Tr → Calls Try.prog 19 #[.agg #[.int .i64 kr, .slice a Tr.length c], .agg #[.int .i64 kr, .slice a Tr.length c]] U fun e w' => e = .returned (.bool true) ∧ U.grownBy w' none from fun U a c hi => by
    have h := relEqual_calls (kr, Tr) (kr, Tr) a a c c U hi hi hlr
    rw [decide_eq_true (rfl : ((kr, Tr) : Rl) = (kr, Tr))] at h
    exact h)
  obtain ⟨lr, hlr'⟩ : ∃ l, Tr.length = l := ⟨_, rfl⟩
  obtain ⟨lo, hlo'⟩ : ∃ l, Tw.length = l := ⟨_, rfl⟩
  rw [hlr'] at HV17M HV17N HV18M HV18N HE19 HE20 HE19S hnr ⊢
  rw [hlo'] at HE19 HE20 hnw ⊢
  have HNR := Lib.hid hnr; have HNW := Lib.hid hnw
  clear hVM hVN hEQ hlr' hlo' hlr _hlo hnr hnw _hm
  obtain ⟨L1, hL1⟩ : ∃ l : List Int, fromL n k A0 = l := ⟨_, rfl⟩
  have vL1 := Lib.hid (by rw [← hL1]; exact (VR.from n k A0 hn1) : VR n (k) L1)
  obtain ⟨lL1, hlL1⟩ : ∃ l, L1.length = l := ⟨_, rfl⟩
  have EL1 := Lib.hid hL1
  have ZL1 := Lib.hid hlL1
  clear hL1 hlL1
  obtain ⟨L2, hL2⟩ : ∃ l : List Int, fromL n k B0 = l := ⟨_, rfl⟩
  have vL2 := Lib.hid (by rw [← hL2]; exact (VR.from n k B0 hn1) : VR n (k) L2)
  obtain ⟨lL2, hlL2⟩ : ∃ l, L2.length = l := ⟨_, rfl⟩
  have EL2 := Lib.hid hL2
  have ZL2 := Lib.hid hlL2
  clear hL2 hlL2
  obtain ⟨L3, hL3⟩ : ∃ l : List Int, fromL n k C0 = l := ⟨_, rfl⟩
  have vL3 := Lib.hid (by rw [← hL3]; exact (VR.from n k C0 hn1) : VR n (k) L3)
  obtain ⟨lL3, hlL3⟩ : ∃ l, L3.length = l := ⟨_, rfl⟩
  have EL3 := Lib.hid hL3
  have ZL3 := Lib.hid hlL3
  clear hL3 hlL3
  obtain ⟨L4, hL4⟩ : ∃ l : List Int, fromL n j C0 = l := ⟨_, rfl⟩
  have vL4 := Lib.hid (by rw [← hL4]; exact VR.from n j C0 hn1 : VR n (j) L4)
  obtain ⟨lL4, hlL4⟩ : ∃ l, L4.length = l := ⟨_, rfl⟩
  have EL4 := Lib.hid hL4
  have ZL4 := Lib.hid hlL4
  clear hL4 hlL4
  obtain ⟨qp, LP, lLP, eP, hp3, vp, zp, p1, p2⟩ := prods_same vL1.out vL4.out hn5 hk3 hj3 ZL1.out ZL4.out
  have vLP := Lib.hid vp; have ZLP := Lib.hid zp; have CP1 := Lib.hid p1; have CP2 := Lib.hid p2
  clear vp zp p1 p2
  obtain ⟨qj, LJ, lLJ, eJ, hq3, vj, zj, j1, j2⟩ := joins2_same vL1.out vL4.out hn1 hn5 hk1 hk3 hj1 hj3 (by rw [← EL1.out]; exact fromL_len n k A0) (by rw [← EL4.out]; exact fromL_len n j C0) ZL1.out ZL4.out
  have vLJ := Lib.hid vj; have ZLJ := Lib.hid zj; have CJ1 := Lib.hid j1; have CJ2 := Lib.hid j2
  clear vj zj j1 j2
  obtain ⟨L5, hL5⟩ : ∃ l : List Int, fromL n 2 A0 = l := ⟨_, rfl⟩
  have vL5 := Lib.hid (by rw [← hL5]; exact VR.from n 2 A0 hn1 : VR n (2) L5)
  obtain ⟨lL5, hlL5⟩ : ∃ l, L5.length = l := ⟨_, rfl⟩
  have EL5 := Lib.hid hL5
  have ZL5 := Lib.hid hlL5
  clear hL5 hlL5
  obtain ⟨L6, hL6⟩ : ∃ l : List Int, uniq (turnL n (fromL n 2 A0)) = l := ⟨_, rfl⟩
  have vL6 := Lib.hid (by rw [← hL6]; exact VR.turn (by rw [EL5.out]; exact vL5.out) hn1 : VR n (2) L6)
  obtain ⟨lL6, hlL6⟩ : ∃ l, L6.length = l := ⟨_, rfl⟩
  have EL6 := Lib.hid hL6
  have ZL6 := Lib.hid hlL6
  clear hL6 hlL6
  obtain ⟨L7, hL7⟩ : ∃ l : List Int, uniq (closS n (fromL n 2 A0)) = l := ⟨_, rfl⟩
  have vL7 := Lib.hid (by rw [← hL7]; exact VR.clos (by rw [EL5.out]; exact vL5.out) : VR n (2) L7)
  obtain ⟨lL7, hlL7⟩ : ∃ l, L7.length = l := ⟨_, rfl⟩
  have EL7 := Lib.hid hL7
  have ZL7 := Lib.hid hlL7
  clear hL7 hlL7
  obtain ⟨L8, hL8⟩ : ∃ l : List Int, idenL n = l := ⟨_, rfl⟩
  have vL8 := Lib.hid (by rw [← hL8]; exact VR.iden n : VR n (2) L8)
  obtain ⟨lL8, hlL8⟩ : ∃ l, L8.length = l := ⟨_, rfl⟩
  have EL8 := Lib.hid hL8
  have ZL8 := Lib.hid hlL8
  clear hL8 hlL8
  obtain ⟨QI, hQI⟩ : ∃ Q, decide (∀ z ∈ L1, z ∈ L2) = Q := ⟨_, rfl⟩
  obtain ⟨L9, hL9⟩ : ∃ l : List Int, unionL (fromL n k A0) (fromL n k B0) = l := ⟨_, rfl⟩
  have vL9 := Lib.hid (by rw [← hL9]; exact VR.union (by rw [EL1.out]; exact vL1.out) (by rw [EL2.out]; exact vL2.out) : VR n (k) L9)
  obtain ⟨lL9, hlL9⟩ : ∃ l, L9.length = l := ⟨_, rfl⟩
  have EL9 := Lib.hid hL9
  have ZL9 := Lib.hid hlL9
  clear hL9 hlL9
  obtain ⟨L10, hL10⟩ : ∃ l : List Int, interL (fromL n k A0) (fromL n k B0) = l := ⟨_, rfl⟩
  have vL10 := Lib.hid (by rw [← hL10]; exact VR.inter (by rw [EL1.out]; exact vL1.out) (by rw [EL2.out]; exact vL2.out) : VR n (k) L10)
  obtain ⟨lL10, hlL10⟩ : ∃ l, L10.length = l := ⟨_, rfl⟩
  have EL10 := Lib.hid hL10
  have ZL10 := Lib.hid hlL10
  clear hL10 hlL10
  obtain ⟨L11, hL11⟩ : ∃ l : List Int, diffL (fromL n k A0) (fromL n k B0) = l := ⟨_, rfl⟩
  have vL11 := Lib.hid (by rw [← hL11]; exact VR.diff (by rw [EL1.out]; exact vL1.out) (by rw [EL2.out]; exact vL2.out) : VR n (k) L11)
  obtain ⟨lL11, hlL11⟩ : ∃ l, L11.length = l := ⟨_, rfl⟩
  have EL11 := Lib.hid hL11
  have ZL11 := Lib.hid hlL11
  clear hL11 hlL11
  obtain ⟨L12, hL12⟩ : ∃ l : List Int, overL (n ^ (k - 1)) (fromL n k A0) (fromL n k B0) = l := ⟨_, rfl⟩
  have vL12 := Lib.hid (by rw [← hL12]; exact VR.over (by rw [EL1.out]; exact vL1.out) (by rw [EL2.out]; exact vL2.out) : VR n (k) L12)
  obtain ⟨lL12, hlL12⟩ : ∃ l, L12.length = l := ⟨_, rfl⟩
  have EL12 := Lib.hid hL12
  have ZL12 := Lib.hid hlL12
  clear hL12 hlL12
  have Q35 := Lib.hid (show decide (∀ z ∈ L1, z ∈ L2) = QI from by exact hQI)
  have Q36 := Lib.hid (show decide (∀ z ∈ L1, z ∈ L2) = QI from by exact hQI)
  obtain ⟨lA0, hlA0⟩ : ∃ l, A0.length = l := ⟨_, rfl⟩
  obtain ⟨lB0, hlB0⟩ : ∃ l, B0.length = l := ⟨_, rfl⟩
  obtain ⟨lC0, hlC0⟩ : ∃ l, C0.length = l := ⟨_, rfl⟩
  have ZA0 := Lib.hid hlA0; have ZB0 := Lib.hid hlB0; have ZC0 := Lib.hid hlC0
  rw [hlA0, hlB0, hlC0]
  clear hlA0 hlB0 hlC0
  have hg := ((World.grownBy_alloc W0 (.cells #[.int .u8 (N : Int), .int .u8 (Ar : Int), .slice aa lA0 ca, .slice ab lB0 cb, .slice ac lC0 cc] 24) none).trans (World.grownBy_alloc (W0.alloc (.cells #[.int .u8 (N : Int), .int .u8 (Ar : Int), .slice aa lA0 ca, .slice ab lB0 cb, .slice ac lC0 cc] 24)) (.cells #[.int .i64 kr, .slice ar lr cr] 27) none)).trans (World.grownBy_alloc ((W0.alloc (.cells #[.int .u8 (N : Int), .int .u8 (Ar : Int), .slice aa lA0 ca, .slice ab lB0 cb, .slice ac lC0 cc] 24)).alloc (.cells #[.int .i64 kr, .slice ar lr cr] 27)) (.cells #[.int .i64 ko, .slice ao lo co] 27) none)
  have hb0 : (((W0.alloc (.cells #[.int .u8 (N : Int), .int .u8 (Ar : Int), .slice aa lA0 ca, .slice ab lB0 cb, .slice ac lC0 cc] 24)).alloc (.cells #[.int .i64 kr, .slice ar lr cr] 27)).alloc (.cells #[.int .i64 ko, .slice ao lo co] 27)).cell? ⟨W0.heap.size, 0, none⟩ = some (.int .u8 (N : Int)) := by go_simp
  have hb1 : (((W0.alloc (.cells #[.int .u8 (N : Int), .int .u8 (Ar : Int), .slice aa lA0 ca, .slice ab lB0 cb, .slice ac lC0 cc] 24)).alloc (.cells #[.int .i64 kr, .slice ar lr cr] 27)).alloc (.cells #[.int .i64 ko, .slice ao lo co] 27)).cell? ⟨W0.heap.size, 1, none⟩ = some (.int .u8 (Ar : Int)) := by go_simp
  have hb2 : (((W0.alloc (.cells #[.int .u8 (N : Int), .int .u8 (Ar : Int), .slice aa lA0 ca, .slice ab lB0 cb, .slice ac lC0 cc] 24)).alloc (.cells #[.int .i64 kr, .slice ar lr cr] 27)).alloc (.cells #[.int .i64 ko, .slice ao lo co] 27)).cell? ⟨W0.heap.size, 2, none⟩ = some (.slice aa lA0 ca) := by go_simp
  have hb3 : (((W0.alloc (.cells #[.int .u8 (N : Int), .int .u8 (Ar : Int), .slice aa lA0 ca, .slice ab lB0 cb, .slice ac lC0 cc] 24)).alloc (.cells #[.int .i64 kr, .slice ar lr cr] 27)).alloc (.cells #[.int .i64 ko, .slice ao lo co] 27)).cell? ⟨W0.heap.size, 3, none⟩ = some (.slice ab lB0 cb) := by go_simp
  have hb4 : (((W0.alloc (.cells #[.int .u8 (N : Int), .int .u8 (Ar : Int), .slice aa lA0 ca, .slice ab lB0 cb, .slice ac lC0 cc] 24)).alloc (.cells #[.int .i64 kr, .slice ar lr cr] 27)).alloc (.cells #[.int .i64 ko, .slice ao lo co] 27)).cell? ⟨W0.heap.size, 4, none⟩ = some (.slice ac lC0 cc) := by go_simp
  have hr0 : (((W0.alloc (.cells #[.int .u8 (N : Int), .int .u8 (Ar : Int), .slice aa lA0 ca, .slice ab lB0 cb, .slice ac lC0 cc] 24)).alloc (.cells #[.int .i64 kr, .slice ar lr cr] 27)).alloc (.cells #[.int .i64 ko, .slice ao lo co] 27)).cell? ⟨W0.heap.size + 1, 0, none⟩ = some (.int .i64 kr) := by go_simp
  have hr1 : (((W0.alloc (.cells #[.int .u8 (N : Int), .int .u8 (Ar : Int), .slice aa lA0 ca, .slice ab lB0 cb, .slice ac lC0 cc] 24)).alloc (.cells #[.int .i64 kr, .slice ar lr cr] 27)).alloc (.cells #[.int .i64 ko, .slice ao lo co] 27)).cell? ⟨W0.heap.size + 1, 1, none⟩ = some (.slice ar lr cr) := by go_simp
  have hw0 : (((W0.alloc (.cells #[.int .u8 (N : Int), .int .u8 (Ar : Int), .slice aa lA0 ca, .slice ab lB0 cb, .slice ac lC0 cc] 24)).alloc (.cells #[.int .i64 kr, .slice ar lr cr] 27)).alloc (.cells #[.int .i64 ko, .slice ao lo co] 27)).cell? ⟨W0.heap.size + 2, 0, none⟩ = some (.int .i64 ko) := by go_simp
  have hw1 : (((W0.alloc (.cells #[.int .u8 (N : Int), .int .u8 (Ar : Int), .slice aa lA0 ca, .slice ab lB0 cb, .slice ac lC0 cc] 24)).alloc (.cells #[.int .i64 kr, .slice ar lr cr] 27)).alloc (.cells #[.int .i64 ko, .slice ao lo co] 27)).cell? ⟨W0.heap.size + 2, 1, none⟩ = some (.slice ao lo co) := by go_simp
  obtain ⟨V0, hV0⟩ : ∃ V, (((W0.alloc (.cells #[.int .u8 (N : Int), .int .u8 (Ar : Int), .slice aa lA0 ca, .slice ab lB0 cb, .slice ac lC0 cc] 24)).alloc (.cells #[.int .i64 kr, .slice ar lr cr] 27)).alloc (.cells #[.int .i64 ko, .slice ao lo co] 27)) = V := ⟨_, rfl⟩
  rw [hV0] at hg hb0 hb1 hb2 hb3 hb4 hr0 hr1 hw0 hw1
  have HG := Lib.hid hg
  have HRB := Lib.hid (And.intro hb0 (And.intro hb1 (And.intro hb2 (And.intro hb3 hb4))))
  have HR := Lib.hid (h.grown hg)
  have HBR := Lib.hid (And.intro hr0 hr1)
  have HBW := Lib.hid (And.intro hw0 hw1)
  have Hrr := Lib.hid (hir.grown hg)
  have Hrw := Lib.hid (hio.grown hg)
  clear hg hb0 hb1 hb2 hb3 hb4 hr0 hr1 hw0 hw1 h hir hio
  go_enter Try.func3, Try.ntmps3
  have qBR0 := HBR.out.1
  have qBR1 := HBR.out.2
  have qBW0 := HBW.out.1
  have qBW1 := HBW.out.2
  have qr0 := HRB.out.1
  have qr1 := HRB.out.2.1
  have qr2 := HRB.out.2.2.1
  have qr3 := HRB.out.2.2.2.1
  have qr4 := HRB.out.2.2.2.2
  go_upto_region 1 with fail
  clear qBR0 qBR1 qBW0 qBW1 qr0 qr1 qr2 qr3 qr4
  clear hV0
  have qBR0 := HBR.out.1
  have qBR1 := HBR.out.2
  have qBW0 := HBW.out.1
  have qBW1 := HBW.out.2
  have qr0 := HRB.out.1
  have qr1 := HRB.out.2.1
  have qr2 := HRB.out.2.2.1
  have qr3 := HRB.out.2.2.2.1
  have qr4 := HRB.out.2.2.2.2
  go_wp2_with fail
  clear qBR0 qBR1 qBW0 qBW1 qr0 qr1 qr2 qr3 qr4
  refine (head_calls _).mono ?_
  rintro e V1 ⟨rfl, g⟩
  replace Hrr := Lib.hid (Hrr.out.grown g)
  replace Hrw := Lib.hid (Hrw.out.grown g)
  replace HBR := Lib.hid (And.intro (World.grownBy.cell g HBR.out.1 (by simp)) (World.grownBy.cell g HBR.out.2 (by simp)))
  replace HBW := Lib.hid (And.intro (World.grownBy.cell g HBW.out.1 (by simp)) (World.grownBy.cell g HBW.out.2 (by simp)))
  replace HRB := Lib.hid (And.intro (World.grownBy.cell g HRB.out.1 (by simp)) (And.intro (World.grownBy.cell g HRB.out.2.1 (by simp)) (And.intro (World.grownBy.cell g HRB.out.2.2.1 (by simp)) (And.intro (World.grownBy.cell g HRB.out.2.2.2.1 (by simp)) (World.grownBy.cell g HRB.out.2.2.2.2 (by simp))))))
  replace HR := Lib.hid (HR.out.grown g)
  replace HG := Lib.hid (World.grownBy.trans HG.out g)
  clear g
  have hnr := HNR.out; have hnw := HNW.out
  have h30 : decide ((300 : Int) < (lr : Int)) = false := decide_eq_false (by omega)
  have h31 : decide ((300 : Int) < (lo : Int)) = false := decide_eq_false (by omega)
  have h32 : decide (300 < lr) = false := decide_eq_false (by omega)
  have h33 : decide (300 < lo) = false := decide_eq_false (by omega)
  have qBR0 := HBR.out.1
  have qBR1 := HBR.out.2
  have qBW0 := HBW.out.1
  have qBW1 := HBW.out.2
  have qr0 := HRB.out.1
  have qr1 := HRB.out.2.1
  have qr2 := HRB.out.2.2.1
  have qr3 := HRB.out.2.2.2.1
  have qr4 := HRB.out.2.2.2.2
  go_wp2_with fail
  clear qBR0 qBR1 qBW0 qBW1 qr0 qr1 qr2 qr3 qr4
  refine (threeV hNN.out hKK.out EL1.out EL2.out EL3.out ZA0.out ZB0.out ZC0.out ZL1.out ZL2.out ZL3.out _ HR.out).mono ?_
  rintro e V2 ⟨xa, xb, xc, ya, yb, yc, rfl, ia, ib, ic, g⟩
  replace Hrr := Lib.hid (Hrr.out.grown g)
  replace Hrw := Lib.hid (Hrw.out.grown g)
  replace HBR := Lib.hid (And.intro (World.grownBy.cell g HBR.out.1 (by simp)) (World.grownBy.cell g HBR.out.2 (by simp)))
  replace HBW := Lib.hid (And.intro (World.grownBy.cell g HBW.out.1 (by simp)) (World.grownBy.cell g HBW.out.2 (by simp)))
  replace HRB := Lib.hid (And.intro (World.grownBy.cell g HRB.out.1 (by simp)) (And.intro (World.grownBy.cell g HRB.out.2.1 (by simp)) (And.intro (World.grownBy.cell g HRB.out.2.2.1 (by simp)) (And.intro (World.grownBy.cell g HRB.out.2.2.2.1 (by simp)) (World.grownBy.cell g HRB.out.2.2.2.2 (by simp))))))
  replace HR := Lib.hid (HR.out.grown g)
  replace HG := Lib.hid (World.grownBy.trans HG.out g)
  clear g
  have Ha := Lib.hid ia; have Hb := Lib.hid ib; have Hc := Lib.hid ic
  clear ia ib ic
  have qBR0 := HBR.out.1
  have qBR1 := HBR.out.2
  have qBW0 := HBW.out.1
  have qBW1 := HBW.out.2
  have qr0 := HRB.out.1
  have qr1 := HRB.out.2.1
  have qr2 := HRB.out.2.2.1
  have qr3 := HRB.out.2.2.2.1
  have qr4 := HRB.out.2.2.2.2
  go_upto_region 5 with fail
  clear qBR0 qBR1 qBW0 qBW1 qr0 qr1 qr2 qr3 qr4
  have hs6 := (Six.new V2 (.int .i64 ((k : Nat) : Int)) (.slice xa lL1 ya) (.int .i64 ((k : Nat) : Int)) (.slice xb lL2 yb) (.int .i64 ((k : Nat) : Int)) (.slice xc lL3 yc) 29).1
  have g := World.grownBy_alloc V2 (.cells #[.int .i64 ((k : Nat) : Int), .slice xa lL1 ya, .int .i64 ((k : Nat) : Int), .slice xb lL2 yb, .int .i64 ((k : Nat) : Int), .slice xc lL3 yc] 29) none
  obtain ⟨V3, hV3⟩ : ∃ z, World.alloc V2 (.cells #[.int .i64 ((k : Nat) : Int), .slice xa lL1 ya, .int .i64 ((k : Nat) : Int), .slice xb lL2 yb, .int .i64 ((k : Nat) : Int), .slice xc lL3 yc] 29) = z := ⟨_, rfl⟩
  rw [hV3] at g hs6 ⊢
  clear hV3
  obtain ⟨bT, hb⟩ : ∃ b, V2.heap.size = b := ⟨_, rfl⟩
  rw [hb] at hs6 ⊢
  clear hb
  replace Hrr := Lib.hid (Hrr.out.grown g)
  replace Hrw := Lib.hid (Hrw.out.grown g)
  replace Ha := Lib.hid (Ha.out.grown g)
  replace Hb := Lib.hid (Hb.out.grown g)
  replace Hc := Lib.hid (Hc.out.grown g)
  replace HBR := Lib.hid (And.intro (World.grownBy.cell g HBR.out.1 (by simp)) (World.grownBy.cell g HBR.out.2 (by simp)))
  replace HBW := Lib.hid (And.intro (World.grownBy.cell g HBW.out.1 (by simp)) (World.grownBy.cell g HBW.out.2 (by simp)))
  replace HRB := Lib.hid (And.intro (World.grownBy.cell g HRB.out.1 (by simp)) (And.intro (World.grownBy.cell g HRB.out.2.1 (by simp)) (And.intro (World.grownBy.cell g HRB.out.2.2.1 (by simp)) (And.intro (World.grownBy.cell g HRB.out.2.2.2.1 (by simp)) (World.grownBy.cell g HRB.out.2.2.2.2 (by simp))))))
  replace HR := Lib.hid (HR.out.grown g)
  replace HG := Lib.hid (World.grownBy.trans HG.out g)
  clear g
  have HT := Lib.hid hs6
  clear hs6
  clear h30 h31 h32 h33 hnr hnw
  have qBR0 := HBR.out.1
  have qBR1 := HBR.out.2
  have qBW0 := HBW.out.1
  have qBW1 := HBW.out.2
  have qr0 := HRB.out.1
  have qr1 := HRB.out.2.1
  have qr2 := HRB.out.2.2.1
  have qr3 := HRB.out.2.2.2.1
  have qr4 := HRB.out.2.2.2.2
  have t0 := HT.out.1
  have t1 := HT.out.2.1
  have t2 := HT.out.2.2.1
  have t3 := HT.out.2.2.2.1
  have t4 := HT.out.2.2.2.2.1
  have t5 := HT.out.2.2.2.2.2
  go_upto_region 6 with fail
  clear qBR0 qBR1 qBW0 qBW1 qr0 qr1 qr2 qr3 qr4 t0 t1 t2 t3 t4 t5
  have hbx := one_cells V3 (.int .i64 (k : Nat)) (.slice xa lL1 ya) 27
  have g := World.grownBy_alloc V3 (.cells #[.int .i64 (k : Nat), .slice xa lL1 ya] 27) none
  obtain ⟨V4, hV4⟩ : ∃ z, World.alloc V3 (.cells #[.int .i64 (k : Nat), .slice xa lL1 ya] 27) = z := ⟨_, rfl⟩
  rw [hV4] at g hbx ⊢
  clear hV4
  obtain ⟨bB14, hb⟩ : ∃ b, V3.heap.size = b := ⟨_, rfl⟩
  rw [hb] at hbx ⊢
  clear hb
  replace Hrr := Lib.hid (Hrr.out.grown g)
  replace Hrw := Lib.hid (Hrw.out.grown g)
  replace Ha := Lib.hid (Ha.out.grown g)
  replace Hb := Lib.hid (Hb.out.grown g)
  replace Hc := Lib.hid (Hc.out.grown g)
  replace HBR := Lib.hid (And.intro (World.grownBy.cell g HBR.out.1 (by simp)) (World.grownBy.cell g HBR.out.2 (by simp)))
  replace HBW := Lib.hid (And.intro (World.grownBy.cell g HBW.out.1 (by simp)) (World.grownBy.cell g HBW.out.2 (by simp)))
  replace HRB := Lib.hid (And.intro (World.grownBy.cell g HRB.out.1 (by simp)) (And.intro (World.grownBy.cell g HRB.out.2.1 (by simp)) (And.intro (World.grownBy.cell g HRB.out.2.2.1 (by simp)) (And.intro (World.grownBy.cell g HRB.out.2.2.2.1 (by simp)) (World.grownBy.cell g HRB.out.2.2.2.2 (by simp))))))
  replace HR := Lib.hid (HR.out.grown g)
  replace HT := Lib.hid (And.intro (World.grownBy.cell g HT.out.1 (by simp)) (And.intro (World.grownBy.cell g HT.out.2.1 (by simp)) (And.intro (World.grownBy.cell g HT.out.2.2.1 (by simp)) (And.intro (World.grownBy.cell g HT.out.2.2.2.1 (by simp)) (And.intro (World.grownBy.cell g HT.out.2.2.2.2.1 (by simp)) (World.grownBy.cell g HT.out.2.2.2.2.2 (by simp)))))))
  replace HG := Lib.hid (World.grownBy.trans HG.out g)
  clear g
  have HB14 := Lib.hid (And.intro hbx.2.1 hbx.2.2.1)
  clear hbx
  have qBR0 := HBR.out.1
  have qBR1 := HBR.out.2
  have qBW0 := HBW.out.1
  have qBW1 := HBW.out.2
  have qB140 := HB14.out.1
  have qB141 := HB14.out.2
  have qr0 := HRB.out.1
  have qr1 := HRB.out.2.1
  have qr2 := HRB.out.2.2.1
  have qr3 := HRB.out.2.2.2.1
  have qr4 := HRB.out.2.2.2.2
  have t0 := HT.out.1
  have t1 := HT.out.2.1
  have t2 := HT.out.2.2.1
  have t3 := HT.out.2.2.2.1
  have t4 := HT.out.2.2.2.2.1
  have t5 := HT.out.2.2.2.2.2
  go_upto_region 7 with fail
  clear qBR0 qBR1 qBW0 qBW1 qB140 qB141 qr0 qr1 qr2 qr3 qr4 t0 t1 t2 t3 t4 t5
  have hbx := one_cells V4 (.int .i64 (k : Nat)) (.slice xb lL2 yb) 27
  have g := World.grownBy_alloc V4 (.cells #[.int .i64 (k : Nat), .slice xb lL2 yb] 27) none
  obtain ⟨V5, hV5⟩ : ∃ z, World.alloc V4 (.cells #[.int .i64 (k : Nat), .slice xb lL2 yb] 27) = z := ⟨_, rfl⟩
  rw [hV5] at g hbx ⊢
  clear hV5
  obtain ⟨bB15, hb⟩ : ∃ b, V4.heap.size = b := ⟨_, rfl⟩
  rw [hb] at hbx ⊢
  clear hb
  replace Hrr := Lib.hid (Hrr.out.grown g)
  replace Hrw := Lib.hid (Hrw.out.grown g)
  replace Ha := Lib.hid (Ha.out.grown g)
  replace Hb := Lib.hid (Hb.out.grown g)
  replace Hc := Lib.hid (Hc.out.grown g)
  replace HBR := Lib.hid (And.intro (World.grownBy.cell g HBR.out.1 (by simp)) (World.grownBy.cell g HBR.out.2 (by simp)))
  replace HBW := Lib.hid (And.intro (World.grownBy.cell g HBW.out.1 (by simp)) (World.grownBy.cell g HBW.out.2 (by simp)))
  replace HB14 := Lib.hid (And.intro (World.grownBy.cell g HB14.out.1 (by simp)) (World.grownBy.cell g HB14.out.2 (by simp)))
  replace HRB := Lib.hid (And.intro (World.grownBy.cell g HRB.out.1 (by simp)) (And.intro (World.grownBy.cell g HRB.out.2.1 (by simp)) (And.intro (World.grownBy.cell g HRB.out.2.2.1 (by simp)) (And.intro (World.grownBy.cell g HRB.out.2.2.2.1 (by simp)) (World.grownBy.cell g HRB.out.2.2.2.2 (by simp))))))
  replace HR := Lib.hid (HR.out.grown g)
  replace HT := Lib.hid (And.intro (World.grownBy.cell g HT.out.1 (by simp)) (And.intro (World.grownBy.cell g HT.out.2.1 (by simp)) (And.intro (World.grownBy.cell g HT.out.2.2.1 (by simp)) (And.intro (World.grownBy.cell g HT.out.2.2.2.1 (by simp)) (And.intro (World.grownBy.cell g HT.out.2.2.2.2.1 (by simp)) (World.grownBy.cell g HT.out.2.2.2.2.2 (by simp)))))))
  replace HG := Lib.hid (World.grownBy.trans HG.out g)
  clear g
  have HB15 := Lib.hid (And.intro hbx.2.1 hbx.2.2.1)
  clear hbx
  clear HT
  have hmod := HJ3.out.1
  have hwn := HJ3.out.2.1
  have hws := HJ3.out.2.2
  have qBR0 := HBR.out.1
  have qBR1 := HBR.out.2
  have qBW0 := HBW.out.1
  have qBW1 := HBW.out.2
  have qB140 := HB14.out.1
  have qB141 := HB14.out.2
  have qB150 := HB15.out.1
  have qB151 := HB15.out.2
  have qr0 := HRB.out.1
  have qr1 := HRB.out.2.1
  have qr2 := HRB.out.2.2.1
  have qr3 := HRB.out.2.2.2.1
  have qr4 := HRB.out.2.2.2.2
  go_wp2_with fail
  clear qBR0 qBR1 qBW0 qBW1 qB140 qB141 qB150 qB151 qr0 qr1 qr2 qr3 qr4
  refine (fromV (n := n) (k := j) hn1 hn5 hj3 HR.out.lC EL4.out ZC0.out ZL4.out _ _ _ HR.out.hC).mono ?_
  rintro e V6 ⟨xcj, ycj, rfl, hr, g⟩
  replace Hrr := Lib.hid (Hrr.out.grown g)
  replace Hrw := Lib.hid (Hrw.out.grown g)
  replace Ha := Lib.hid (Ha.out.grown g)
  replace Hb := Lib.hid (Hb.out.grown g)
  replace Hc := Lib.hid (Hc.out.grown g)
  replace HBR := Lib.hid (And.intro (World.grownBy.cell g HBR.out.1 (by simp)) (World.grownBy.cell g HBR.out.2 (by simp)))
  replace HBW := Lib.hid (And.intro (World.grownBy.cell g HBW.out.1 (by simp)) (World.grownBy.cell g HBW.out.2 (by simp)))
  replace HB14 := Lib.hid (And.intro (World.grownBy.cell g HB14.out.1 (by simp)) (World.grownBy.cell g HB14.out.2 (by simp)))
  replace HB15 := Lib.hid (And.intro (World.grownBy.cell g HB15.out.1 (by simp)) (World.grownBy.cell g HB15.out.2 (by simp)))
  replace HRB := Lib.hid (And.intro (World.grownBy.cell g HRB.out.1 (by simp)) (And.intro (World.grownBy.cell g HRB.out.2.1 (by simp)) (And.intro (World.grownBy.cell g HRB.out.2.2.1 (by simp)) (And.intro (World.grownBy.cell g HRB.out.2.2.2.1 (by simp)) (World.grownBy.cell g HRB.out.2.2.2.2 (by simp))))))
  replace HR := Lib.hid (HR.out.grown g)
  replace HG := Lib.hid (World.grownBy.trans HG.out g)
  clear g
  have Hcj := Lib.hid hr
  clear hr
  have qBR0 := HBR.out.1
  have qBR1 := HBR.out.2
  have qBW0 := HBW.out.1
  have qBW1 := HBW.out.2
  have qB140 := HB14.out.1
  have qB141 := HB14.out.2
  have qB150 := HB15.out.1
  have qB151 := HB15.out.2
  have qr0 := HRB.out.1
  have qr1 := HRB.out.2.1
  have qr2 := HRB.out.2.2.1
  have qr3 := HRB.out.2.2.2.1
  have qr4 := HRB.out.2.2.2.2
  go_upto_region 8 with fail
  clear qBR0 qBR1 qBW0 qBW1 qB140 qB141 qB150 qB151 qr0 qr1 qr2 qr3 qr4
  have hbx := one_cells V6 (.int .i64 (j : Nat)) (.slice xcj lL4 ycj) 27
  have g := World.grownBy_alloc V6 (.cells #[.int .i64 (j : Nat), .slice xcj lL4 ycj] 27) none
  obtain ⟨V7, hV7⟩ : ∃ z, World.alloc V6 (.cells #[.int .i64 (j : Nat), .slice xcj lL4 ycj] 27) = z := ⟨_, rfl⟩
  rw [hV7] at g hbx ⊢
  clear hV7
  obtain ⟨bB16, hb⟩ : ∃ b, V6.heap.size = b := ⟨_, rfl⟩
  rw [hb] at hbx ⊢
  clear hb
  replace Hrr := Lib.hid (Hrr.out.grown g)
  replace Hrw := Lib.hid (Hrw.out.grown g)
  replace Ha := Lib.hid (Ha.out.grown g)
  replace Hb := Lib.hid (Hb.out.grown g)
  replace Hc := Lib.hid (Hc.out.grown g)
  replace Hcj := Lib.hid (Hcj.out.grown g)
  replace HBR := Lib.hid (And.intro (World.grownBy.cell g HBR.out.1 (by simp)) (World.grownBy.cell g HBR.out.2 (by simp)))
  replace HBW := Lib.hid (And.intro (World.grownBy.cell g HBW.out.1 (by simp)) (World.grownBy.cell g HBW.out.2 (by simp)))
  replace HB14 := Lib.hid (And.intro (World.grownBy.cell g HB14.out.1 (by simp)) (World.grownBy.cell g HB14.out.2 (by simp)))
  replace HB15 := Lib.hid (And.intro (World.grownBy.cell g HB15.out.1 (by simp)) (World.grownBy.cell g HB15.out.2 (by simp)))
  replace HRB := Lib.hid (And.intro (World.grownBy.cell g HRB.out.1 (by simp)) (And.intro (World.grownBy.cell g HRB.out.2.1 (by simp)) (And.intro (World.grownBy.cell g HRB.out.2.2.1 (by simp)) (And.intro (World.grownBy.cell g HRB.out.2.2.2.1 (by simp)) (World.grownBy.cell g HRB.out.2.2.2.2 (by simp))))))
  replace HR := Lib.hid (HR.out.grown g)
  replace HG := Lib.hid (World.grownBy.trans HG.out g)
  clear g
  have HB16 := Lib.hid (And.intro hbx.2.1 hbx.2.2.1)
  clear hbx
  clear hmod hwn hws
  have qBR0 := HBR.out.1
  have qBR1 := HBR.out.2
  have qBW0 := HBW.out.1
  have qBW1 := HBW.out.2
  have qB140 := HB14.out.1
  have qB141 := HB14.out.2
  have qB150 := HB15.out.1
  have qB151 := HB15.out.2
  have qB160 := HB16.out.1
  have qB161 := HB16.out.2
  have qr0 := HRB.out.1
  have qr1 := HRB.out.2.1
  have qr2 := HRB.out.2.2.1
  have qr3 := HRB.out.2.2.2.1
  have qr4 := HRB.out.2.2.2.2
  go_wp2_with fail
  clear qBR0 qBR1 qBW0 qBW1 qB140 qB141 qB150 qB151 qB160 qB161 qr0 qr1 qr2 qr3 qr4
  refine (CP1.out _ _ _ _ _ Ha.out Hcj.out).mono ?_
  rintro e V8 ⟨xr1, yr1, rfl, hr, g⟩
  replace Hrr := Lib.hid (Hrr.out.grown g)
  replace Hrw := Lib.hid (Hrw.out.grown g)
  replace Ha := Lib.hid (Ha.out.grown g)
  replace Hb := Lib.hid (Hb.out.grown g)
  replace Hc := Lib.hid (Hc.out.grown g)
  replace Hcj := Lib.hid (Hcj.out.grown g)
  replace HBR := Lib.hid (And.intro (World.grownBy.cell g HBR.out.1 (by simp)) (World.grownBy.cell g HBR.out.2 (by simp)))
  replace HBW := Lib.hid (And.intro (World.grownBy.cell g HBW.out.1 (by simp)) (World.grownBy.cell g HBW.out.2 (by simp)))
  replace HB14 := Lib.hid (And.intro (World.grownBy.cell g HB14.out.1 (by simp)) (World.grownBy.cell g HB14.out.2 (by simp)))
  replace HB15 := Lib.hid (And.intro (World.grownBy.cell g HB15.out.1 (by simp)) (World.grownBy.cell g HB15.out.2 (by simp)))
  replace HB16 := Lib.hid (And.intro (World.grownBy.cell g HB16.out.1 (by simp)) (World.grownBy.cell g HB16.out.2 (by simp)))
  replace HRB := Lib.hid (And.intro (World.grownBy.cell g HRB.out.1 (by simp)) (And.intro (World.grownBy.cell g HRB.out.2.1 (by simp)) (And.intro (World.grownBy.cell g HRB.out.2.2.1 (by simp)) (And.intro (World.grownBy.cell g HRB.out.2.2.2.1 (by simp)) (World.grownBy.cell g HRB.out.2.2.2.2 (by simp))))))
  replace HR := Lib.hid (HR.out.grown g)
  replace HG := Lib.hid (World.grownBy.trans HG.out g)
  clear g
  have Hr1 := Lib.hid hr
  clear hr
  have qBR0 := HBR.out.1
  have qBR1 := HBR.out.2
  have qBW0 := HBW.out.1
  have qBW1 := HBW.out.2
  have qB140 := HB14.out.1
  have qB141 := HB14.out.2
  have qB150 := HB15.out.1
  have qB151 := HB15.out.2
  have qB160 := HB16.out.1
  have qB161 := HB16.out.2
  have qr0 := HRB.out.1
  have qr1 := HRB.out.2.1
  have qr2 := HRB.out.2.2.1
  have qr3 := HRB.out.2.2.2.1
  have qr4 := HRB.out.2.2.2.2
  go_upto_region 9 with fail
  clear qBR0 qBR1 qBW0 qBW1 qB140 qB141 qB150 qB151 qB160 qB161 qr0 qr1 qr2 qr3 qr4
  have hbx := one_cells V8 (.int .i64 (qp : Nat)) (.slice xr1 lLP yr1) 27
  have g := World.grownBy_alloc V8 (.cells #[.int .i64 (qp : Nat), .slice xr1 lLP yr1] 27) none
  obtain ⟨V9, hV9⟩ : ∃ z, World.alloc V8 (.cells #[.int .i64 (qp : Nat), .slice xr1 lLP yr1] 27) = z := ⟨_, rfl⟩
  rw [hV9] at g hbx ⊢
  clear hV9
  obtain ⟨bB17, hb⟩ : ∃ b, V8.heap.size = b := ⟨_, rfl⟩
  rw [hb] at hbx ⊢
  clear hb
  replace Hrr := Lib.hid (Hrr.out.grown g)
  replace Hrw := Lib.hid (Hrw.out.grown g)
  replace Ha := Lib.hid (Ha.out.grown g)
  replace Hb := Lib.hid (Hb.out.grown g)
  replace Hc := Lib.hid (Hc.out.grown g)
  replace Hcj := Lib.hid (Hcj.out.grown g)
  replace Hr1 := Lib.hid (Hr1.out.grown g)
  replace HBR := Lib.hid (And.intro (World.grownBy.cell g HBR.out.1 (by simp)) (World.grownBy.cell g HBR.out.2 (by simp)))
  replace HBW := Lib.hid (And.intro (World.grownBy.cell g HBW.out.1 (by simp)) (World.grownBy.cell g HBW.out.2 (by simp)))
  replace HB14 := Lib.hid (And.intro (World.grownBy.cell g HB14.out.1 (by simp)) (World.grownBy.cell g HB14.out.2 (by simp)))
  replace HB15 := Lib.hid (And.intro (World.grownBy.cell g HB15.out.1 (by simp)) (World.grownBy.cell g HB15.out.2 (by simp)))
  replace HB16 := Lib.hid (And.intro (World.grownBy.cell g HB16.out.1 (by simp)) (World.grownBy.cell g HB16.out.2 (by simp)))
  replace HRB := Lib.hid (And.intro (World.grownBy.cell g HRB.out.1 (by simp)) (And.intro (World.grownBy.cell g HRB.out.2.1 (by simp)) (And.intro (World.grownBy.cell g HRB.out.2.2.1 (by simp)) (And.intro (World.grownBy.cell g HRB.out.2.2.2.1 (by simp)) (World.grownBy.cell g HRB.out.2.2.2.2 (by simp))))))
  replace HR := Lib.hid (HR.out.grown g)
  replace HG := Lib.hid (World.grownBy.trans HG.out g)
  clear g
  have HB17 := Lib.hid (And.intro hbx.2.1 hbx.2.2.1)
  clear hbx
  have qBR0 := HBR.out.1
  have qBR1 := HBR.out.2
  have qBW0 := HBW.out.1
  have qBW1 := HBW.out.2
  have qB140 := HB14.out.1
  have qB141 := HB14.out.2
  have qB150 := HB15.out.1
  have qB151 := HB15.out.2
  have qB160 := HB16.out.1
  have qB161 := HB16.out.2
  have qB170 := HB17.out.1
  have qB171 := HB17.out.2
  have qr0 := HRB.out.1
  have qr1 := HRB.out.2.1
  have qr2 := HRB.out.2.2.1
  have qr3 := HRB.out.2.2.2.1
  have qr4 := HRB.out.2.2.2.2
  go_wp2_with fail
  clear qBR0 qBR1 qBW0 qBW1 qB140 qB141 qB150 qB151 qB160 qB161 qB170 qB171 qr0 qr1 qr2 qr3 qr4
  refine (CP2.out _ _ _ _ _ Ha.out Hcj.out).mono ?_
  rintro e V10 ⟨xr2, yr2, rfl, hr, g⟩
  replace Hrr := Lib.hid (Hrr.out.grown g)
  replace Hrw := Lib.hid (Hrw.out.grown g)
  replace Ha := Lib.hid (Ha.out.grown g)
  replace Hb := Lib.hid (Hb.out.grown g)
  replace Hc := Lib.hid (Hc.out.grown g)
  replace Hcj := Lib.hid (Hcj.out.grown g)
  replace Hr1 := Lib.hid (Hr1.out.grown g)
  replace HBR := Lib.hid (And.intro (World.grownBy.cell g HBR.out.1 (by simp)) (World.grownBy.cell g HBR.out.2 (by simp)))
  replace HBW := Lib.hid (And.intro (World.grownBy.cell g HBW.out.1 (by simp)) (World.grownBy.cell g HBW.out.2 (by simp)))
  replace HB14 := Lib.hid (And.intro (World.grownBy.cell g HB14.out.1 (by simp)) (World.grownBy.cell g HB14.out.2 (by simp)))
  replace HB15 := Lib.hid (And.intro (World.grownBy.cell g HB15.out.1 (by simp)) (World.grownBy.cell g HB15.out.2 (by simp)))
  replace HB16 := Lib.hid (And.intro (World.grownBy.cell g HB16.out.1 (by simp)) (World.grownBy.cell g HB16.out.2 (by simp)))
  replace HB17 := Lib.hid (And.intro (World.grownBy.cell g HB17.out.1 (by simp)) (World.grownBy.cell g HB17.out.2 (by simp)))
  replace HRB := Lib.hid (And.intro (World.grownBy.cell g HRB.out.1 (by simp)) (And.intro (World.grownBy.cell g HRB.out.2.1 (by simp)) (And.intro (World.grownBy.cell g HRB.out.2.2.1 (by simp)) (And.intro (World.grownBy.cell g HRB.out.2.2.2.1 (by simp)) (World.grownBy.cell g HRB.out.2.2.2.2 (by simp))))))
  replace HR := Lib.hid (HR.out.grown g)
  replace HG := Lib.hid (World.grownBy.trans HG.out g)
  clear g
  have Hr2 := Lib.hid hr
  clear hr
  have qBR0 := HBR.out.1
  have qBR1 := HBR.out.2
  have qBW0 := HBW.out.1
  have qBW1 := HBW.out.2
  have qB140 := HB14.out.1
  have qB141 := HB14.out.2
  have qB150 := HB15.out.1
  have qB151 := HB15.out.2
  have qB160 := HB16.out.1
  have qB161 := HB16.out.2
  have qB170 := HB17.out.1
  have qB171 := HB17.out.2
  have qr0 := HRB.out.1
  have qr1 := HRB.out.2.1
  have qr2 := HRB.out.2.2.1
  have qr3 := HRB.out.2.2.2.1
  have qr4 := HRB.out.2.2.2.2
  go_upto_region 10 with fail
  clear qBR0 qBR1 qBW0 qBW1 qB140 qB141 qB150 qB151 qB160 qB161 qB170 qB171 qr0 qr1 qr2 qr3 qr4
  have hbx := one_cells V10 (.int .i64 (qp : Nat)) (.slice xr2 lLP yr2) 27
  have g := World.grownBy_alloc V10 (.cells #[.int .i64 (qp : Nat), .slice xr2 lLP yr2] 27) none
  obtain ⟨V11, hV11⟩ : ∃ z, World.alloc V10 (.cells #[.int .i64 (qp : Nat), .slice xr2 lLP yr2] 27) = z := ⟨_, rfl⟩
  rw [hV11] at g hbx ⊢
  clear hV11
  obtain ⟨bB19, hb⟩ : ∃ b, V10.heap.size = b := ⟨_, rfl⟩
  rw [hb] at hbx ⊢
  clear hb
  replace Hrr := Lib.hid (Hrr.out.grown g)
  replace Hrw := Lib.hid (Hrw.out.grown g)
  replace Ha := Lib.hid (Ha.out.grown g)
  replace Hb := Lib.hid (Hb.out.grown g)
  replace Hc := Lib.hid (Hc.out.grown g)
  replace Hcj := Lib.hid (Hcj.out.grown g)
  replace Hr1 := Lib.hid (Hr1.out.grown g)
  replace Hr2 := Lib.hid (Hr2.out.grown g)
  replace HBR := Lib.hid (And.intro (World.grownBy.cell g HBR.out.1 (by simp)) (World.grownBy.cell g HBR.out.2 (by simp)))
  replace HBW := Lib.hid (And.intro (World.grownBy.cell g HBW.out.1 (by simp)) (World.grownBy.cell g HBW.out.2 (by simp)))
  replace HB14 := Lib.hid (And.intro (World.grownBy.cell g HB14.out.1 (by simp)) (World.grownBy.cell g HB14.out.2 (by simp)))
  replace HB15 := Lib.hid (And.intro (World.grownBy.cell g HB15.out.1 (by simp)) (World.grownBy.cell g HB15.out.2 (by simp)))
  replace HB16 := Lib.hid (And.intro (World.grownBy.cell g HB16.out.1 (by simp)) (World.grownBy.cell g HB16.out.2 (by simp)))
  replace HB17 := Lib.hid (And.intro (World.grownBy.cell g HB17.out.1 (by simp)) (World.grownBy.cell g HB17.out.2 (by simp)))
  replace HRB := Lib.hid (And.intro (World.grownBy.cell g HRB.out.1 (by simp)) (And.intro (World.grownBy.cell g HRB.out.2.1 (by simp)) (And.intro (World.grownBy.cell g HRB.out.2.2.1 (by simp)) (And.intro (World.grownBy.cell g HRB.out.2.2.2.1 (by simp)) (World.grownBy.cell g HRB.out.2.2.2.2 (by simp))))))
  replace HR := Lib.hid (HR.out.grown g)
  replace HG := Lib.hid (World.grownBy.trans HG.out g)
  clear g
  have HB19 := Lib.hid (And.intro hbx.2.1 hbx.2.2.1)
  clear hbx
  have qBR0 := HBR.out.1
  have qBR1 := HBR.out.2
  have qBW0 := HBW.out.1
  have qBW1 := HBW.out.2
  have qB140 := HB14.out.1
  have qB141 := HB14.out.2
  have qB150 := HB15.out.1
  have qB151 := HB15.out.2
  have qB160 := HB16.out.1
  have qB161 := HB16.out.2
  have qB170 := HB17.out.1
  have qB171 := HB17.out.2
  have qB190 := HB19.out.1
  have qB191 := HB19.out.2
  have qr0 := HRB.out.1
  have qr1 := HRB.out.2.1
  have qr2 := HRB.out.2.2.1
  have qr3 := HRB.out.2.2.2.1
  have qr4 := HRB.out.2.2.2.2
  go_wp2_with fail
  clear qBR0 qBR1 qBW0 qBW1 qB140 qB141 qB150 qB151 qB160 qB161 qB170 qB171 qB190 qB191 qr0 qr1 qr2 qr3 qr4
  refine (CJ1.out _ _ _ _ _ Ha.out Hcj.out).mono ?_
  rintro e V12 ⟨xr3, yr3, rfl, hr, g⟩
  replace Hrr := Lib.hid (Hrr.out.grown g)
  replace Hrw := Lib.hid (Hrw.out.grown g)
  replace Ha := Lib.hid (Ha.out.grown g)
  replace Hb := Lib.hid (Hb.out.grown g)
  replace Hc := Lib.hid (Hc.out.grown g)
  replace Hcj := Lib.hid (Hcj.out.grown g)
  replace Hr1 := Lib.hid (Hr1.out.grown g)
  replace Hr2 := Lib.hid (Hr2.out.grown g)
  replace HBR := Lib.hid (And.intro (World.grownBy.cell g HBR.out.1 (by simp)) (World.grownBy.cell g HBR.out.2 (by simp)))
  replace HBW := Lib.hid (And.intro (World.grownBy.cell g HBW.out.1 (by simp)) (World.grownBy.cell g HBW.out.2 (by simp)))
  replace HB14 := Lib.hid (And.intro (World.grownBy.cell g HB14.out.1 (by simp)) (World.grownBy.cell g HB14.out.2 (by simp)))
  replace HB15 := Lib.hid (And.intro (World.grownBy.cell g HB15.out.1 (by simp)) (World.grownBy.cell g HB15.out.2 (by simp)))
  replace HB16 := Lib.hid (And.intro (World.grownBy.cell g HB16.out.1 (by simp)) (World.grownBy.cell g HB16.out.2 (by simp)))
  replace HB17 := Lib.hid (And.intro (World.grownBy.cell g HB17.out.1 (by simp)) (World.grownBy.cell g HB17.out.2 (by simp)))
  replace HB19 := Lib.hid (And.intro (World.grownBy.cell g HB19.out.1 (by simp)) (World.grownBy.cell g HB19.out.2 (by simp)))
  replace HRB := Lib.hid (And.intro (World.grownBy.cell g HRB.out.1 (by simp)) (And.intro (World.grownBy.cell g HRB.out.2.1 (by simp)) (And.intro (World.grownBy.cell g HRB.out.2.2.1 (by simp)) (And.intro (World.grownBy.cell g HRB.out.2.2.2.1 (by simp)) (World.grownBy.cell g HRB.out.2.2.2.2 (by simp))))))
  replace HR := Lib.hid (HR.out.grown g)
  replace HG := Lib.hid (World.grownBy.trans HG.out g)
  clear g
  have Hr3 := Lib.hid hr
  clear hr
  have qBR0 := HBR.out.1
  have qBR1 := HBR.out.2
  have qBW0 := HBW.out.1
  have qBW1 := HBW.out.2
  have qB140 := HB14.out.1
  have qB141 := HB14.out.2
  have qB150 := HB15.out.1
  have qB151 := HB15.out.2
  have qB160 := HB16.out.1
  have qB161 := HB16.out.2
  have qB170 := HB17.out.1
  have qB171 := HB17.out.2
  have qB190 := HB19.out.1
  have qB191 := HB19.out.2
  have qr0 := HRB.out.1
  have qr1 := HRB.out.2.1
  have qr2 := HRB.out.2.2.1
  have qr3 := HRB.out.2.2.2.1
  have qr4 := HRB.out.2.2.2.2
  go_upto_region 11 with fail
  clear qBR0 qBR1 qBW0 qBW1 qB140 qB141 qB150 qB151 qB160 qB161 qB170 qB171 qB190 qB191 qr0 qr1 qr2 qr3 qr4
  have hbx := one_cells V12 (.int .i64 (qj : Nat)) (.slice xr3 lLJ yr3) 27
  have g := World.grownBy_alloc V12 (.cells #[.int .i64 (qj : Nat), .slice xr3 lLJ yr3] 27) none
  obtain ⟨V13, hV13⟩ : ∃ z, World.alloc V12 (.cells #[.int .i64 (qj : Nat), .slice xr3 lLJ yr3] 27) = z := ⟨_, rfl⟩
  rw [hV13] at g hbx ⊢
  clear hV13
  obtain ⟨bB21, hb⟩ : ∃ b, V12.heap.size = b := ⟨_, rfl⟩
  rw [hb] at hbx ⊢
  clear hb
  replace Hrr := Lib.hid (Hrr.out.grown g)
  replace Hrw := Lib.hid (Hrw.out.grown g)
  replace Ha := Lib.hid (Ha.out.grown g)
  replace Hb := Lib.hid (Hb.out.grown g)
  replace Hc := Lib.hid (Hc.out.grown g)
  replace Hcj := Lib.hid (Hcj.out.grown g)
  replace Hr1 := Lib.hid (Hr1.out.grown g)
  replace Hr2 := Lib.hid (Hr2.out.grown g)
  replace Hr3 := Lib.hid (Hr3.out.grown g)
  replace HBR := Lib.hid (And.intro (World.grownBy.cell g HBR.out.1 (by simp)) (World.grownBy.cell g HBR.out.2 (by simp)))
  replace HBW := Lib.hid (And.intro (World.grownBy.cell g HBW.out.1 (by simp)) (World.grownBy.cell g HBW.out.2 (by simp)))
  replace HB14 := Lib.hid (And.intro (World.grownBy.cell g HB14.out.1 (by simp)) (World.grownBy.cell g HB14.out.2 (by simp)))
  replace HB15 := Lib.hid (And.intro (World.grownBy.cell g HB15.out.1 (by simp)) (World.grownBy.cell g HB15.out.2 (by simp)))
  replace HB16 := Lib.hid (And.intro (World.grownBy.cell g HB16.out.1 (by simp)) (World.grownBy.cell g HB16.out.2 (by simp)))
  replace HB17 := Lib.hid (And.intro (World.grownBy.cell g HB17.out.1 (by simp)) (World.grownBy.cell g HB17.out.2 (by simp)))
  replace HB19 := Lib.hid (And.intro (World.grownBy.cell g HB19.out.1 (by simp)) (World.grownBy.cell g HB19.out.2 (by simp)))
  replace HRB := Lib.hid (And.intro (World.grownBy.cell g HRB.out.1 (by simp)) (And.intro (World.grownBy.cell g HRB.out.2.1 (by simp)) (And.intro (World.grownBy.cell g HRB.out.2.2.1 (by simp)) (And.intro (World.grownBy.cell g HRB.out.2.2.2.1 (by simp)) (World.grownBy.cell g HRB.out.2.2.2.2 (by simp))))))
  replace HR := Lib.hid (HR.out.grown g)
  replace HG := Lib.hid (World.grownBy.trans HG.out g)
  clear g
  have HB21 := Lib.hid (And.intro hbx.2.1 hbx.2.2.1)
  clear hbx
  have qBR0 := HBR.out.1
  have qBR1 := HBR.out.2
  have qBW0 := HBW.out.1
  have qBW1 := HBW.out.2
  have qB140 := HB14.out.1
  have qB141 := HB14.out.2
  have qB150 := HB15.out.1
  have qB151 := HB15.out.2
  have qB160 := HB16.out.1
  have qB161 := HB16.out.2
  have qB170 := HB17.out.1
  have qB171 := HB17.out.2
  have qB190 := HB19.out.1
  have qB191 := HB19.out.2
  have qB210 := HB21.out.1
  have qB211 := HB21.out.2
  have qr0 := HRB.out.1
  have qr1 := HRB.out.2.1
  have qr2 := HRB.out.2.2.1
  have qr3 := HRB.out.2.2.2.1
  have qr4 := HRB.out.2.2.2.2
  go_wp2_with fail
  clear qBR0 qBR1 qBW0 qBW1 qB140 qB141 qB150 qB151 qB160 qB161 qB170 qB171 qB190 qB191 qB210 qB211 qr0 qr1 qr2 qr3 qr4
  refine (CJ2.out _ _ _ _ _ Ha.out Hcj.out).mono ?_
  rintro e V14 ⟨xr4, yr4, rfl, hr, g⟩
  replace Hrr := Lib.hid (Hrr.out.grown g)
  replace Hrw := Lib.hid (Hrw.out.grown g)
  replace Ha := Lib.hid (Ha.out.grown g)
  replace Hb := Lib.hid (Hb.out.grown g)
  replace Hc := Lib.hid (Hc.out.grown g)
  replace Hcj := Lib.hid (Hcj.out.grown g)
  replace Hr1 := Lib.hid (Hr1.out.grown g)
  replace Hr2 := Lib.hid (Hr2.out.grown g)
  replace Hr3 := Lib.hid (Hr3.out.grown g)
  replace HBR := Lib.hid (And.intro (World.grownBy.cell g HBR.out.1 (by simp)) (World.grownBy.cell g HBR.out.2 (by simp)))
  replace HBW := Lib.hid (And.intro (World.grownBy.cell g HBW.out.1 (by simp)) (World.grownBy.cell g HBW.out.2 (by simp)))
  replace HB14 := Lib.hid (And.intro (World.grownBy.cell g HB14.out.1 (by simp)) (World.grownBy.cell g HB14.out.2 (by simp)))
  replace HB15 := Lib.hid (And.intro (World.grownBy.cell g HB15.out.1 (by simp)) (World.grownBy.cell g HB15.out.2 (by simp)))
  replace HB16 := Lib.hid (And.intro (World.grownBy.cell g HB16.out.1 (by simp)) (World.grownBy.cell g HB16.out.2 (by simp)))
  replace HB17 := Lib.hid (And.intro (World.grownBy.cell g HB17.out.1 (by simp)) (World.grownBy.cell g HB17.out.2 (by simp)))
  replace HB19 := Lib.hid (And.intro (World.grownBy.cell g HB19.out.1 (by simp)) (World.grownBy.cell g HB19.out.2 (by simp)))
  replace HB21 := Lib.hid (And.intro (World.grownBy.cell g HB21.out.1 (by simp)) (World.grownBy.cell g HB21.out.2 (by simp)))
  replace HRB := Lib.hid (And.intro (World.grownBy.cell g HRB.out.1 (by simp)) (And.intro (World.grownBy.cell g HRB.out.2.1 (by simp)) (And.intro (World.grownBy.cell g HRB.out.2.2.1 (by simp)) (And.intro (World.grownBy.cell g HRB.out.2.2.2.1 (by simp)) (World.grownBy.cell g HRB.out.2.2.2.2 (by simp))))))
  replace HR := Lib.hid (HR.out.grown g)
  replace HG := Lib.hid (World.grownBy.trans HG.out g)
  clear g
  have Hr4 := Lib.hid hr
  clear hr
  have qBR0 := HBR.out.1
  have qBR1 := HBR.out.2
  have qBW0 := HBW.out.1
  have qBW1 := HBW.out.2
  have qB140 := HB14.out.1
  have qB141 := HB14.out.2
  have qB150 := HB15.out.1
  have qB151 := HB15.out.2
  have qB160 := HB16.out.1
  have qB161 := HB16.out.2
  have qB170 := HB17.out.1
  have qB171 := HB17.out.2
  have qB190 := HB19.out.1
  have qB191 := HB19.out.2
  have qB210 := HB21.out.1
  have qB211 := HB21.out.2
  have qr0 := HRB.out.1
  have qr1 := HRB.out.2.1
  have qr2 := HRB.out.2.2.1
  have qr3 := HRB.out.2.2.2.1
  have qr4 := HRB.out.2.2.2.2
  go_upto_region 12 with fail
  clear qBR0 qBR1 qBW0 qBW1 qB140 qB141 qB150 qB151 qB160 qB161 qB170 qB171 qB190 qB191 qB210 qB211 qr0 qr1 qr2 qr3 qr4
  have hbx := one_cells V14 (.int .i64 (qj : Nat)) (.slice xr4 lLJ yr4) 27
  have g := World.grownBy_alloc V14 (.cells #[.int .i64 (qj : Nat), .slice xr4 lLJ yr4] 27) none
  obtain ⟨V15, hV15⟩ : ∃ z, World.alloc V14 (.cells #[.int .i64 (qj : Nat), .slice xr4 lLJ yr4] 27) = z := ⟨_, rfl⟩
  rw [hV15] at g hbx ⊢
  clear hV15
  obtain ⟨bB23, hb⟩ : ∃ b, V14.heap.size = b := ⟨_, rfl⟩
  rw [hb] at hbx ⊢
  clear hb
  replace Hrr := Lib.hid (Hrr.out.grown g)
  replace Hrw := Lib.hid (Hrw.out.grown g)
  replace Ha := Lib.hid (Ha.out.grown g)
  replace Hb := Lib.hid (Hb.out.grown g)
  replace Hc := Lib.hid (Hc.out.grown g)
  replace Hcj := Lib.hid (Hcj.out.grown g)
  replace Hr1 := Lib.hid (Hr1.out.grown g)
  replace Hr2 := Lib.hid (Hr2.out.grown g)
  replace Hr3 := Lib.hid (Hr3.out.grown g)
  replace Hr4 := Lib.hid (Hr4.out.grown g)
  replace HBR := Lib.hid (And.intro (World.grownBy.cell g HBR.out.1 (by simp)) (World.grownBy.cell g HBR.out.2 (by simp)))
  replace HBW := Lib.hid (And.intro (World.grownBy.cell g HBW.out.1 (by simp)) (World.grownBy.cell g HBW.out.2 (by simp)))
  replace HB14 := Lib.hid (And.intro (World.grownBy.cell g HB14.out.1 (by simp)) (World.grownBy.cell g HB14.out.2 (by simp)))
  replace HB15 := Lib.hid (And.intro (World.grownBy.cell g HB15.out.1 (by simp)) (World.grownBy.cell g HB15.out.2 (by simp)))
  replace HB16 := Lib.hid (And.intro (World.grownBy.cell g HB16.out.1 (by simp)) (World.grownBy.cell g HB16.out.2 (by simp)))
  replace HB17 := Lib.hid (And.intro (World.grownBy.cell g HB17.out.1 (by simp)) (World.grownBy.cell g HB17.out.2 (by simp)))
  replace HB19 := Lib.hid (And.intro (World.grownBy.cell g HB19.out.1 (by simp)) (World.grownBy.cell g HB19.out.2 (by simp)))
  replace HB21 := Lib.hid (And.intro (World.grownBy.cell g HB21.out.1 (by simp)) (World.grownBy.cell g HB21.out.2 (by simp)))
  replace HRB := Lib.hid (And.intro (World.grownBy.cell g HRB.out.1 (by simp)) (And.intro (World.grownBy.cell g HRB.out.2.1 (by simp)) (And.intro (World.grownBy.cell g HRB.out.2.2.1 (by simp)) (And.intro (World.grownBy.cell g HRB.out.2.2.2.1 (by simp)) (World.grownBy.cell g HRB.out.2.2.2.2 (by simp))))))
  replace HR := Lib.hid (HR.out.grown g)
  replace HG := Lib.hid (World.grownBy.trans HG.out g)
  clear g
  have HB23 := Lib.hid (And.intro hbx.2.1 hbx.2.2.1)
  clear hbx
  have qBR0 := HBR.out.1
  have qBR1 := HBR.out.2
  have qBW0 := HBW.out.1
  have qBW1 := HBW.out.2
  have qB140 := HB14.out.1
  have qB141 := HB14.out.2
  have qB150 := HB15.out.1
  have qB151 := HB15.out.2
  have qB160 := HB16.out.1
  have qB161 := HB16.out.2
  have qB170 := HB17.out.1
  have qB171 := HB17.out.2
  have qB190 := HB19.out.1
  have qB191 := HB19.out.2
  have qB210 := HB21.out.1
  have qB211 := HB21.out.2
  have qB230 := HB23.out.1
  have qB231 := HB23.out.2
  have qr0 := HRB.out.1
  have qr1 := HRB.out.2.1
  have qr2 := HRB.out.2.2.1
  have qr3 := HRB.out.2.2.2.1
  have qr4 := HRB.out.2.2.2.2
  go_wp2_with fail
  clear qBR0 qBR1 qBW0 qBW1 qB140 qB141 qB150 qB151 qB160 qB161 qB170 qB171 qB190 qB191 qB210 qB211 qB230 qB231 qr0 qr1 qr2 qr3 qr4
  refine (fromV (n := n) (k := 2) hn1 hn5 (by omega) HR.out.lA EL5.out ZA0.out ZL5.out _ _ _ HR.out.hA).mono ?_
  rintro e V16 ⟨xu, yu, rfl, hr, g⟩
  replace Hrr := Lib.hid (Hrr.out.grown g)
  replace Hrw := Lib.hid (Hrw.out.grown g)
  replace Ha := Lib.hid (Ha.out.grown g)
  replace Hb := Lib.hid (Hb.out.grown g)
  replace Hc := Lib.hid (Hc.out.grown g)
  replace Hcj := Lib.hid (Hcj.out.grown g)
  replace Hr1 := Lib.hid (Hr1.out.grown g)
  replace Hr2 := Lib.hid (Hr2.out.grown g)
  replace Hr3 := Lib.hid (Hr3.out.grown g)
  replace Hr4 := Lib.hid (Hr4.out.grown g)
  replace HBR := Lib.hid (And.intro (World.grownBy.cell g HBR.out.1 (by simp)) (World.grownBy.cell g HBR.out.2 (by simp)))
  replace HBW := Lib.hid (And.intro (World.grownBy.cell g HBW.out.1 (by simp)) (World.grownBy.cell g HBW.out.2 (by simp)))
  replace HB14 := Lib.hid (And.intro (World.grownBy.cell g HB14.out.1 (by simp)) (World.grownBy.cell g HB14.out.2 (by simp)))
  replace HB15 := Lib.hid (And.intro (World.grownBy.cell g HB15.out.1 (by simp)) (World.grownBy.cell g HB15.out.2 (by simp)))
  replace HB16 := Lib.hid (And.intro (World.grownBy.cell g HB16.out.1 (by simp)) (World.grownBy.cell g HB16.out.2 (by simp)))
  replace HB17 := Lib.hid (And.intro (World.grownBy.cell g HB17.out.1 (by simp)) (World.grownBy.cell g HB17.out.2 (by simp)))
  replace HB19 := Lib.hid (And.intro (World.grownBy.cell g HB19.out.1 (by simp)) (World.grownBy.cell g HB19.out.2 (by simp)))
  replace HB21 := Lib.hid (And.intro (World.grownBy.cell g HB21.out.1 (by simp)) (World.grownBy.cell g HB21.out.2 (by simp)))
  replace HB23 := Lib.hid (And.intro (World.grownBy.cell g HB23.out.1 (by simp)) (World.grownBy.cell g HB23.out.2 (by simp)))
  replace HRB := Lib.hid (And.intro (World.grownBy.cell g HRB.out.1 (by simp)) (And.intro (World.grownBy.cell g HRB.out.2.1 (by simp)) (And.intro (World.grownBy.cell g HRB.out.2.2.1 (by simp)) (And.intro (World.grownBy.cell g HRB.out.2.2.2.1 (by simp)) (World.grownBy.cell g HRB.out.2.2.2.2 (by simp))))))
  replace HR := Lib.hid (HR.out.grown g)
  replace HG := Lib.hid (World.grownBy.trans HG.out g)
  clear g
  have Hu := Lib.hid hr
  clear hr
  have qBR0 := HBR.out.1
  have qBR1 := HBR.out.2
  have qBW0 := HBW.out.1
  have qBW1 := HBW.out.2
  have qB140 := HB14.out.1
  have qB141 := HB14.out.2
  have qB150 := HB15.out.1
  have qB151 := HB15.out.2
  have qB160 := HB16.out.1
  have qB161 := HB16.out.2
  have qB170 := HB17.out.1
  have qB171 := HB17.out.2
  have qB190 := HB19.out.1
  have qB191 := HB19.out.2
  have qB210 := HB21.out.1
  have qB211 := HB21.out.2
  have qB230 := HB23.out.1
  have qB231 := HB23.out.2
  have qr0 := HRB.out.1
  have qr1 := HRB.out.2.1
  have qr2 := HRB.out.2.2.1
  have qr3 := HRB.out.2.2.2.1
  have qr4 := HRB.out.2.2.2.2
  go_upto_region 13 with fail
  clear qBR0 qBR1 qBW0 qBW1 qB140 qB141 qB150 qB151 qB160 qB161 qB170 qB171 qB190 qB191 qB210 qB211 qB230 qB231 qr0 qr1 qr2 qr3 qr4
  have hbx := one_cells V16 (.int .i64 2) (.slice xu lL5 yu) 27
  have g := World.grownBy_alloc V16 (.cells #[.int .i64 2, .slice xu lL5 yu] 27) none
  obtain ⟨V17, hV17⟩ : ∃ z, World.alloc V16 (.cells #[.int .i64 2, .slice xu lL5 yu] 27) = z := ⟨_, rfl⟩
  rw [hV17] at g hbx ⊢
  clear hV17
  obtain ⟨bB25, hb⟩ : ∃ b, V16.heap.size = b := ⟨_, rfl⟩
  rw [hb] at hbx ⊢
  clear hb
  replace Hrr := Lib.hid (Hrr.out.grown g)
  replace Hrw := Lib.hid (Hrw.out.grown g)
  replace Ha := Lib.hid (Ha.out.grown g)
  replace Hb := Lib.hid (Hb.out.grown g)
  replace Hc := Lib.hid (Hc.out.grown g)
  replace Hcj := Lib.hid (Hcj.out.grown g)
  replace Hr1 := Lib.hid (Hr1.out.grown g)
  replace Hr2 := Lib.hid (Hr2.out.grown g)
  replace Hr3 := Lib.hid (Hr3.out.grown g)
  replace Hr4 := Lib.hid (Hr4.out.grown g)
  replace Hu := Lib.hid (Hu.out.grown g)
  replace HBR := Lib.hid (And.intro (World.grownBy.cell g HBR.out.1 (by simp)) (World.grownBy.cell g HBR.out.2 (by simp)))
  replace HBW := Lib.hid (And.intro (World.grownBy.cell g HBW.out.1 (by simp)) (World.grownBy.cell g HBW.out.2 (by simp)))
  replace HB14 := Lib.hid (And.intro (World.grownBy.cell g HB14.out.1 (by simp)) (World.grownBy.cell g HB14.out.2 (by simp)))
  replace HB15 := Lib.hid (And.intro (World.grownBy.cell g HB15.out.1 (by simp)) (World.grownBy.cell g HB15.out.2 (by simp)))
  replace HB16 := Lib.hid (And.intro (World.grownBy.cell g HB16.out.1 (by simp)) (World.grownBy.cell g HB16.out.2 (by simp)))
  replace HB17 := Lib.hid (And.intro (World.grownBy.cell g HB17.out.1 (by simp)) (World.grownBy.cell g HB17.out.2 (by simp)))
  replace HB19 := Lib.hid (And.intro (World.grownBy.cell g HB19.out.1 (by simp)) (World.grownBy.cell g HB19.out.2 (by simp)))
  replace HB21 := Lib.hid (And.intro (World.grownBy.cell g HB21.out.1 (by simp)) (World.grownBy.cell g HB21.out.2 (by simp)))
  replace HB23 := Lib.hid (And.intro (World.grownBy.cell g HB23.out.1 (by simp)) (World.grownBy.cell g HB23.out.2 (by simp)))
  replace HRB := Lib.hid (And.intro (World.grownBy.cell g HRB.out.1 (by simp)) (And.intro (World.grownBy.cell g HRB.out.2.1 (by simp)) (And.intro (World.grownBy.cell g HRB.out.2.2.1 (by simp)) (And.intro (World.grownBy.cell g HRB.out.2.2.2.1 (by simp)) (World.grownBy.cell g HRB.out.2.2.2.2 (by simp))))))
  replace HR := Lib.hid (HR.out.grown g)
  replace HG := Lib.hid (World.grownBy.trans HG.out g)
  clear g
  have HB25 := Lib.hid (And.intro hbx.2.1 hbx.2.2.1)
  clear hbx
  clear HRB HR
  have HS := Lib.hid (fun (Wh : World) (hWh : V17.grownBy Wh none) => (⟨hWh, hWh.cell HBR.out.1 (by simp), hWh.cell HBR.out.2 (by simp), hWh.cell HBW.out.1 (by simp), hWh.cell HBW.out.2 (by simp), hWh.cell HB14.out.1 (by simp), hWh.cell HB14.out.2 (by simp), hWh.cell HB15.out.1 (by simp), hWh.cell HB15.out.2 (by simp), hWh.cell HB16.out.1 (by simp), hWh.cell HB16.out.2 (by simp), hWh.cell HB17.out.1 (by simp), hWh.cell HB17.out.2 (by simp), hWh.cell HB19.out.1 (by simp), hWh.cell HB19.out.2 (by simp), hWh.cell HB21.out.1 (by simp), hWh.cell HB21.out.2 (by simp), hWh.cell HB23.out.1 (by simp), hWh.cell HB23.out.2 (by simp), hWh.cell HB25.out.1 (by simp), hWh.cell HB25.out.2 (by simp)⟩ : (fun Wh : World => V17.grownBy Wh none ∧ Wh.cell? ⟨(W0.heap.size + 1), 0, none⟩ = some (.int .i64 kr) ∧ Wh.cell? ⟨(W0.heap.size + 1), 1, none⟩ = some (.slice ar lr cr) ∧ Wh.cell? ⟨(W0.heap.size + 2), 0, none⟩ = some (.int .i64 ko) ∧ Wh.cell? ⟨(W0.heap.size + 2), 1, none⟩ = some (.slice ao lo co) ∧ Wh.cell? ⟨bB14, 0, none⟩ = some (.int .i64 (k : Nat)) ∧ Wh.cell? ⟨bB14, 1, none⟩ = some (.slice xa lL1 ya) ∧ Wh.cell? ⟨bB15, 0, none⟩ = some (.int .i64 (k : Nat)) ∧ Wh.cell? ⟨bB15, 1, none⟩ = some (.slice xb lL2 yb) ∧ Wh.cell? ⟨bB16, 0, none⟩ = some (.int .i64 (j : Nat)) ∧ Wh.cell? ⟨bB16, 1, none⟩ = some (.slice xcj lL4 ycj) ∧ Wh.cell? ⟨bB17, 0, none⟩ = some (.int .i64 (qp : Nat)) ∧ Wh.cell? ⟨bB17, 1, none⟩ = some (.slice xr1 lLP yr1) ∧ Wh.cell? ⟨bB19, 0, none⟩ = some (.int .i64 (qp : Nat)) ∧ Wh.cell? ⟨bB19, 1, none⟩ = some (.slice xr2 lLP yr2) ∧ Wh.cell? ⟨bB21, 0, none⟩ = some (.int .i64 (qj : Nat)) ∧ Wh.cell? ⟨bB21, 1, none⟩ = some (.slice xr3 lLJ yr3) ∧ Wh.cell? ⟨bB23, 0, none⟩ = some (.int .i64 (qj : Nat)) ∧ Wh.cell? ⟨bB23, 1, none⟩ = some (.slice xr4 lLJ yr4) ∧ Wh.cell? ⟨bB25, 0, none⟩ = some (.int .i64 2) ∧ Wh.cell? ⟨bB25, 1, none⟩ = some (.slice xu lL5 yu)) Wh))
  have hdr : V17.grownBy V17.drew none := ⟨rfl, rfl, rfl, Nat.le_refl _, fun _ _ _ => rfl⟩
  refine wp_region_held_drew (S := (fun Wh : World => V17.grownBy Wh none ∧ Wh.cell? ⟨(W0.heap.size + 1), 0, none⟩ = some (.int .i64 kr) ∧ Wh.cell? ⟨(W0.heap.size + 1), 1, none⟩ = some (.slice ar lr cr) ∧ Wh.cell? ⟨(W0.heap.size + 2), 0, none⟩ = some (.int .i64 ko) ∧ Wh.cell? ⟨(W0.heap.size + 2), 1, none⟩ = some (.slice ao lo co) ∧ Wh.cell? ⟨bB14, 0, none⟩ = some (.int .i64 (k : Nat)) ∧ Wh.cell? ⟨bB14, 1, none⟩ = some (.slice xa lL1 ya) ∧ Wh.cell? ⟨bB15, 0, none⟩ = some (.int .i64 (k : Nat)) ∧ Wh.cell? ⟨bB15, 1, none⟩ = some (.slice xb lL2 yb) ∧ Wh.cell? ⟨bB16, 0, none⟩ = some (.int .i64 (j : Nat)) ∧ Wh.cell? ⟨bB16, 1, none⟩ = some (.slice xcj lL4 ycj) ∧ Wh.cell? ⟨bB17, 0, none⟩ = some (.int .i64 (qp : Nat)) ∧ Wh.cell? ⟨bB17, 1, none⟩ = some (.slice xr1 lLP yr1) ∧ Wh.cell? ⟨bB19, 0, none⟩ = some (.int .i64 (qp : Nat)) ∧ Wh.cell? ⟨bB19, 1, none⟩ = some (.slice xr2 lLP yr2) ∧ Wh.cell? ⟨bB21, 0, none⟩ = some (.int .i64 (qj : Nat)) ∧ Wh.cell? ⟨bB21, 1, none⟩ = some (.slice xr3 lLJ yr3) ∧ Wh.cell? ⟨bB23, 0, none⟩ = some (.int .i64 (qj : Nat)) ∧ Wh.cell? ⟨bB23, 1, none⟩ = some (.slice xr4 lLJ yr4) ∧ Wh.cell? ⟨bB25, 0, none⟩ = some (.int .i64 2) ∧ Wh.cell? ⟨bB25, 1, none⟩ = some (.slice xu lL5 yu))) (by kernel_rfl) (HS.out _ hdr) (fun hHeld => ?_)
  refine wpAnyH_take (i := 0) (oi := { dst := some 87, op := Op.move (Operand.tmp 4), type := 3, pos := "law.go:55", after := #[], guard := none }) (v := ?_) rfl (by kernel_rfl) (by kernel_rfl) (by kernel_rfl) (fun _ _ _ h => h) (Or.inl ⟨by rfl, ?_⟩) (by assumption) ?_
  rotate_left 1
  · (intro W hSW; (try dsimp only at hSW); first | (go_simp; done) | (go_simp; with_reducible rfl))
  try simp only [Act.put, List.setIfInBounds_toArray, List.set_cons_zero, List.set_cons_succ]
  refine wpAnyH_take (i := 1) (oi := { dst := some 88, op := Op.load 27 (Operand.tmp 7), type := 27, pos := "law.go:55", after := #[], guard := none }) (v := ?_) rfl (by kernel_rfl) (by kernel_rfl) (by kernel_rfl) (fun _ _ _ h => h) (Or.inl ⟨by rfl, ?_⟩) (by assumption) ?_
  rotate_left 1
  · (intro W hSW; (try dsimp only at hSW); first | (go_simp; done) | (go_simp; with_reducible rfl))
  try simp only [Act.put, List.setIfInBounds_toArray, List.set_cons_zero, List.set_cons_succ]
  refine wpAnyH_take (i := 3) (oi := { dst := some 90, op := Op.move (Operand.tmp 4), type := 3, pos := "law.go:55", after := #[], guard := none }) (v := ?_) rfl (by kernel_rfl) (by kernel_rfl) (by kernel_rfl) (fun _ _ _ h => h) (Or.inl ⟨by rfl, ?_⟩) (by assumption) ?_
  rotate_left 1
  · (intro W hSW; (try dsimp only at hSW); first | (go_simp; done) | (go_simp; with_reducible rfl))
  try simp only [Act.put, List.setIfInBounds_toArray, List.set_cons_zero, List.set_cons_succ]
  refine wpAnyH_take (i := 4) (oi := { dst := some 91, op := Op.load 27 (Operand.tmp 7), type := 27, pos := "law.go:55", after := #[], guard := none }) (v := ?_) rfl (by kernel_rfl) (by kernel_rfl) (by kernel_rfl) (fun _ _ _ h => h) (Or.inl ⟨by rfl, ?_⟩) (by assumption) ?_
  rotate_left 1
  · (intro W hSW; (try dsimp only at hSW); first | (go_simp; done) | (go_simp; with_reducible rfl))
  try simp only [Act.put, List.setIfInBounds_toArray, List.set_cons_zero, List.set_cons_succ]
  refine wpAnyH_ready (rs := [2]) (by kernel_rfl) (by simp) ?_
  refine (AllReadyH.cons (o := { dst := some 89, op := Op.call { callee := Callee.value (Operand.func 17), args := #[Operand.tmp 87, Operand.tmp 88], argTypes := #[3, 27] }, type := 4, pos := "law.go:55", after := #[{ on := 0, ground := Ground.data }, { on := 1, ground := Ground.data }], guard := none }) rfl (fun K hK => ?_) AllReadyH.nil)
  rw [if_pos (by rfl)]
  go_simp
  go_at_call 17
  refine (HV17M.out _ _ _ (Hrr.out.grown hdr)).mono ?_
  rintro e wc2 ⟨rfl, gc2⟩
  have hgr2 := World.grownBy.trans hdr gc2
  go_wp2_with fail
  refine hK.out _ _ (HS.out _ hgr2) (fun hHeld => ?_)
  clear hK K
  try simp only [Act.put, List.setIfInBounds_toArray, List.set_cons_zero, List.set_cons_succ]
  refine wpAnyH_ready (rs := [5]) (by kernel_rfl) (by simp) ?_
  refine (AllReadyH.cons (o := { dst := some 92, op := Op.call { callee := Callee.value (Operand.func 18), args := #[Operand.tmp 90, Operand.tmp 91], argTypes := #[3, 27] }, type := 4, pos := "law.go:55", after := #[{ on := 3, ground := Ground.data }, { on := 4, ground := Ground.data }, { on := 2, ground := Ground.chain }], guard := none }) rfl (fun K hK => ?_) AllReadyH.nil)
  rw [if_pos (by rfl)]
  go_simp
  go_at_call 18
  refine (HV18M.out _ _ _ (Hrr.out.grown hgr2)).mono ?_
  rintro e wc5 ⟨rfl, gc5⟩
  have hgr5 := World.grownBy.trans hgr2 gc5
  go_wp2_with fail
  refine hK.out _ _ (HS.out _ hgr5) (fun hHeld => ?_)
  clear hK K
  try simp only [Act.put, List.setIfInBounds_toArray, List.set_cons_zero, List.set_cons_succ]
  refine wpAnyH_take (i := 6) (oi := { dst := some 93, op := Op.binOp BinOp.neq 4 (Operand.tmp 89) (Operand.tmp 92) 4, type := 4, pos := "law.go:55", after := #[{ on := 2, ground := Ground.data }, { on := 5, ground := Ground.data }], guard := none }) (v := ?_) rfl (by kernel_rfl) (by kernel_rfl) (by kernel_rfl) (fun _ _ _ h => h) (Or.inl ⟨by rfl, ?_⟩) (by assumption) ?_
  rotate_left 1
  · (intro W hSW; (try dsimp only at hSW); first | (go_simp; done) | (go_simp; with_reducible rfl))
  try simp only [Act.put, List.setIfInBounds_toArray, List.set_cons_zero, List.set_cons_succ]
  refine wpAnyH_take (i := 7) (oi := { dst := some 94, op := Op.move (Operand.tmp 93), type := 4, pos := "law.go:55", after := #[{ on := 6, ground := Ground.data }, { on := 5, ground := Ground.chain }], guard := none }) (v := ?_) rfl (by kernel_rfl) (by kernel_rfl) (by kernel_rfl) (fun _ _ _ h => h) (Or.inl ⟨by rfl, ?_⟩) (by assumption) ?_
  rotate_left 1
  · (intro W hSW; (try dsimp only at hSW); first | (go_simp; done) | (go_simp; with_reducible rfl))
  try simp only [Act.put, List.setIfInBounds_toArray, List.set_cons_zero, List.set_cons_succ]
  refine wpAnyH_take (i := 8) (oi := { dst := some 95, op := Op.move (Operand.tmp 12), type := 3, pos := "law.go:55", after := #[{ on := 7, ground := Ground.guard }], guard := some (7, false) }) (v := ?_) rfl (by kernel_rfl) (by kernel_rfl) (by kernel_rfl) (fun _ _ _ h => h) (Or.inl ⟨by rfl, ?_⟩) (by assumption) ?_
  rotate_left 1
  · (intro W hSW; (try dsimp only at hSW); first | (go_simp; done) | (go_simp; with_reducible rfl))
  try simp only [Act.put, List.setIfInBounds_toArray, List.set_cons_zero, List.set_cons_succ]
  refine wpAnyH_take (i := 9) (oi := { dst := some 96, op := Op.load 27 (Operand.tmp 7), type := 27, pos := "law.go:55", after := #[{ on := 7, ground := Ground.guard }], guard := some (7, false) }) (v := ?_) rfl (by kernel_rfl) (by kernel_rfl) (by kernel_rfl) (fun _ _ _ h => h) (Or.inl ⟨by rfl, ?_⟩) (by assumption) ?_
  rotate_left 1
  · (intro W hSW; (try dsimp only at hSW); first | (go_simp; done) | (go_simp; with_reducible rfl))
  try simp only [Act.put, List.setIfInBounds_toArray, List.set_cons_zero, List.set_cons_succ]
  refine wpAnyH_take (i := 11) (oi := { dst := some 98, op := Op.move (Operand.tmp 12), type := 3, pos := "law.go:55", after := #[{ on := 7, ground := Ground.guard }], guard := some (7, false) }) (v := ?_) rfl (by kernel_rfl) (by kernel_rfl) (by kernel_rfl) (fun _ _ _ h => h) (Or.inl ⟨by rfl, ?_⟩) (by assumption) ?_
  rotate_left 1
  · (intro W hSW; (try dsimp only at hSW); first | (go_simp; done) | (go_simp; with_reducible rfl))
  try simp only [Act.put, List.setIfInBounds_toArray, List.set_cons_zero, List.set_cons_succ]
  refine wpAnyH_take (i := 12) (oi := { dst := some 99, op := Op.load 27 (Operand.tmp 7), type := 27, pos := "law.go:55", after := #[{ on := 7, ground := Ground.guard }], guard := some (7, false) }) (v := ?_) rfl (by kernel_rfl) (by kernel_rfl) (by kernel_rfl) (fun _ _ _ h => h) (Or.inl ⟨by rfl, ?_⟩) (by assumption) ?_
  rotate_left 1
  · (intro W hSW; (try dsimp only at hSW); first | (go_simp; done) | (go_simp; with_reducible rfl))
  try simp only [Act.put, List.setIfInBounds_toArray, List.set_cons_zero, List.set_cons_succ]
  refine wpAnyH_ready (rs := [10]) (by kernel_rfl) (by simp) ?_
  refine (AllReadyH.cons (o := { dst := some 97, op := Op.call { callee := Callee.value (Operand.func 17), args := #[Operand.tmp 95, Operand.tmp 96], argTypes := #[3, 27] }, type := 4, pos := "law.go:55", after := #[{ on := 8, ground := Ground.data }, { on := 9, ground := Ground.data }, { on := 7, ground := Ground.chain }, { on := 7, ground := Ground.guard }], guard := some (7, false) }) rfl (fun K hK => ?_) AllReadyH.nil)
  rw [if_pos (by rfl)]
  go_simp
  go_at_call 17
  refine (HV17N.out _ _ _ (Hrr.out.grown hgr5)).mono ?_
  rintro e wc10 ⟨rfl, gc10⟩
  have hgr10 := World.grownBy.trans hgr5 gc10
  go_wp2_with fail
  refine hK.out _ _ (HS.out _ hgr10) (fun hHeld => ?_)
  clear hK K
  try simp only [Act.put, List.setIfInBounds_toArray, List.set_cons_zero, List.set_cons_succ]
  refine wpAnyH_ready (rs := [13]) (by kernel_rfl) (by simp) ?_
  refine (AllReadyH.cons (o := { dst := some 100, op := Op.call { callee := Callee.value (Operand.func 18), args := #[Operand.tmp 98, Operand.tmp 99], argTypes := #[3, 27] }, type := 4, pos := "law.go:55", after := #[{ on := 11, ground := Ground.data }, { on := 12, ground := Ground.data }, { on := 10, ground := Ground.chain }, { on := 7, ground := Ground.guard }], guard := some (7, false) }) rfl (fun K hK => ?_) AllReadyH.nil)
  rw [if_pos (by rfl)]
  go_simp
  go_at_call 18
  refine (HV18N.out _ _ _ (Hrr.out.grown hgr10)).mono ?_
  rintro e wc13 ⟨rfl, gc13⟩
  have hgr13 := World.grownBy.trans hgr10 gc13
  go_wp2_with fail
  refine hK.out _ _ (HS.out _ hgr13) (fun hHeld => ?_)
  clear hK K
  try simp only [Act.put, List.setIfInBounds_toArray, List.set_cons_zero, List.set_cons_succ]
  refine wpAnyH_take (i := 14) (oi := { dst := some 101, op := Op.binOp BinOp.neq 4 (Operand.tmp 97) (Operand.tmp 100) 4, type := 4, pos := "law.go:55", after := #[{ on := 10, ground := Ground.data }, { on := 13, ground := Ground.data }, { on := 7, ground := Ground.guard }], guard := some (7, false) }) (v := ?_) rfl (by kernel_rfl) (by kernel_rfl) (by kernel_rfl) (fun _ _ _ h => h) (Or.inl ⟨by rfl, ?_⟩) (by assumption) ?_
  rotate_left 1
  · (intro W hSW; (try dsimp only at hSW); first | (go_simp; done) | (go_simp; with_reducible rfl))
  try simp only [Act.put, List.setIfInBounds_toArray, List.set_cons_zero, List.set_cons_succ]
  refine wpAnyH_take (i := 15) (oi := { dst := some 102, op := Op.pick (Operand.tmp 94) (Operand.const (Value.bool true)) (Operand.tmp 101), type := 4, pos := "law.go:55", after := #[{ on := 7, ground := Ground.data }, { on := 14, ground := Ground.data }], guard := none }) (v := ?_) rfl (by kernel_rfl) (by kernel_rfl) (by kernel_rfl) (fun _ _ _ h => h) (Or.inl ⟨by rfl, ?_⟩) (by assumption) ?_
  rotate_left 1
  · (intro W hSW; (try dsimp only at hSW); first | (go_simp; done) | (go_simp; with_reducible rfl))
  try simp only [Act.put, List.setIfInBounds_toArray, List.set_cons_zero, List.set_cons_succ]
  refine wpAnyH_take (i := 16) (oi := { dst := some 103, op := Op.move (Operand.tmp 102), type := 4, pos := "law.go:55", after := #[{ on := 15, ground := Ground.data }, { on := 13, ground := Ground.chain }], guard := none }) (v := ?_) rfl (by kernel_rfl) (by kernel_rfl) (by kernel_rfl) (fun _ _ _ h => h) (Or.inl ⟨by rfl, ?_⟩) (by assumption) ?_
  rotate_left 1
  · (intro W hSW; (try dsimp only at hSW); first | (go_simp; done) | (go_simp; with_reducible rfl))
  try simp only [Act.put, List.setIfInBounds_toArray, List.set_cons_zero, List.set_cons_succ]
  refine wpAnyH_take (i := 17) (oi := { dst := some 104, op := Op.load 27 (Operand.tmp 7), type := 27, pos := "law.go:55", after := #[{ on := 16, ground := Ground.guard }], guard := some (16, false) }) (v := ?_) rfl (by kernel_rfl) (by kernel_rfl) (by kernel_rfl) (fun _ _ _ h => h) (Or.inl ⟨by rfl, ?_⟩) (by assumption) ?_
  rotate_left 1
  · (intro W hSW; (try dsimp only at hSW); first | (go_simp; done) | (go_simp; with_reducible rfl))
  try simp only [Act.put, List.setIfInBounds_toArray, List.set_cons_zero, List.set_cons_succ]
  refine wpAnyH_take (i := 18) (oi := { dst := some 105, op := Op.load 27 (Operand.tmp 8), type := 27, pos := "law.go:55", after := #[{ on := 16, ground := Ground.guard }], guard := some (16, false) }) (v := ?_) rfl (by kernel_rfl) (by kernel_rfl) (by kernel_rfl) (fun _ _ _ h => h) (Or.inl ⟨by rfl, ?_⟩) (by assumption) ?_
  rotate_left 1
  · (intro W hSW; (try dsimp only at hSW); first | (go_simp; done) | (go_simp; with_reducible rfl))
  try simp only [Act.put, List.setIfInBounds_toArray, List.set_cons_zero, List.set_cons_succ]
  refine wpAnyH_take (i := 20) (oi := { dst := some 107, op := Op.load 27 (Operand.tmp 7), type := 27, pos := "law.go:55", after := #[{ on := 16, ground := Ground.guard }], guard := some (16, false) }) (v := ?_) rfl (by kernel_rfl) (by kernel_rfl) (by kernel_rfl) (fun _ _ _ h => h) (Or.inl ⟨by rfl, ?_⟩) (by assumption) ?_
  rotate_left 1
  · (intro W hSW; (try dsimp only at hSW); first | (go_simp; done) | (go_simp; with_reducible rfl))
  try simp only [Act.put, List.setIfInBounds_toArray, List.set_cons_zero, List.set_cons_succ]
  refine wpAnyH_take (i := 21) (oi := { dst := some 108, op := Op.load 27 (Operand.tmp 8), type := 27, pos := "law.go:55", after := #[{ on := 16, ground := Ground.guard }], guard := some (16, false) }) (v := ?_) rfl (by kernel_rfl) (by kernel_rfl) (by kernel_rfl) (fun _ _ _ h => h) (Or.inl ⟨by rfl, ?_⟩) (by assumption) ?_
  rotate_left 1
  · (intro W hSW; (try dsimp only at hSW); first | (go_simp; done) | (go_simp; with_reducible rfl))
  try simp only [Act.put, List.setIfInBounds_toArray, List.set_cons_zero, List.set_cons_succ]
  refine wpAnyH_ready (rs := [19]) (by kernel_rfl) (by simp) ?_
  refine (AllReadyH.cons (o := { dst := some 106, op := Op.call { callee := Callee.value (Operand.func 19), args := #[Operand.tmp 104, Operand.tmp 105], argTypes := #[27, 27] }, type := 4, pos := "law.go:55", after := #[{ on := 17, ground := Ground.data }, { on := 18, ground := Ground.data }, { on := 16, ground := Ground.chain }, { on := 16, ground := Ground.guard }], guard := some (16, false) }) rfl (fun K hK => ?_) AllReadyH.nil)
  rw [if_pos (by rfl)]
  go_simp
  go_at_call 19
  refine (HE19.out _ _ _ _ _ (Hrr.out.grown hgr13) (Hrw.out.grown hgr13)).mono ?_
  rintro e wc19 ⟨rfl, gc19⟩
  have hgr19 := World.grownBy.trans hgr13 gc19
  go_wp2_with fail
  refine hK.out _ _ (HS.out _ hgr19) (fun hHeld => ?_)
  clear hK K
  try simp only [Act.put, List.setIfInBounds_toArray, List.set_cons_zero, List.set_cons_succ]
  refine wpAnyH_ready (rs := [22]) (by kernel_rfl) (by simp) ?_
  refine (AllReadyH.cons (o := { dst := some 109, op := Op.call { callee := Callee.value (Operand.func 20), args := #[Operand.tmp 107, Operand.tmp 108], argTypes := #[27, 27] }, type := 4, pos := "law.go:55", after := #[{ on := 20, ground := Ground.data }, { on := 21, ground := Ground.data }, { on := 19, ground := Ground.chain }, { on := 16, ground := Ground.guard }], guard := some (16, false) }) rfl (fun K hK => ?_) AllReadyH.nil)
  rw [if_pos (by rfl)]
  go_simp
  go_at_call 20
  refine (HE20.out _ _ _ _ _ (Hrr.out.grown hgr19) (Hrw.out.grown hgr19)).mono ?_
  rintro e wc22 ⟨rfl, gc22⟩
  have hgr22 := World.grownBy.trans hgr19 gc22
  go_wp2_with fail
  refine hK.out _ _ (HS.out _ hgr22) (fun hHeld => ?_)
  clear hK K
  try simp only [Act.put, List.setIfInBounds_toArray, List.set_cons_zero, List.set_cons_succ]
  refine wpAnyH_take (i := 23) (oi := { dst := some 110, op := Op.binOp BinOp.neq 4 (Operand.tmp 106) (Operand.tmp 109) 4, type := 4, pos := "law.go:55", after := #[{ on := 19, ground := Ground.data }, { on := 22, ground := Ground.data }, { on := 16, ground := Ground.guard }], guard := some (16, false) }) (v := ?_) rfl (by kernel_rfl) (by kernel_rfl) (by kernel_rfl) (fun _ _ _ h => h) (Or.inl ⟨by rfl, ?_⟩) (by assumption) ?_
  rotate_left 1
  · (intro W hSW; (try dsimp only at hSW); first | (go_simp; done) | (go_simp; with_reducible rfl))
  try simp only [Act.put, List.setIfInBounds_toArray, List.set_cons_zero, List.set_cons_succ]
  refine wpAnyH_take (i := 24) (oi := { dst := some 111, op := Op.pick (Operand.tmp 103) (Operand.const (Value.bool true)) (Operand.tmp 110), type := 4, pos := "law.go:55", after := #[{ on := 16, ground := Ground.data }, { on := 23, ground := Ground.data }], guard := none }) (v := ?_) rfl (by kernel_rfl) (by kernel_rfl) (by kernel_rfl) (fun _ _ _ h => h) (Or.inl ⟨by rfl, ?_⟩) (by assumption) ?_
  rotate_left 1
  · (intro W hSW; (try dsimp only at hSW); first | (go_simp; done) | (go_simp; with_reducible rfl))
  try simp only [Act.put, List.setIfInBounds_toArray, List.set_cons_zero, List.set_cons_succ]
  refine wpAnyH_take (i := 25) (oi := { dst := some 112, op := Op.move (Operand.tmp 111), type := 4, pos := "law.go:55", after := #[{ on := 24, ground := Ground.data }, { on := 22, ground := Ground.chain }], guard := none }) (v := ?_) rfl (by kernel_rfl) (by kernel_rfl) (by kernel_rfl) (fun _ _ _ h => h) (Or.inl ⟨by rfl, ?_⟩) (by assumption) ?_
  rotate_left 1
  · (intro W hSW; (try dsimp only at hSW); first | (go_simp; done) | (go_simp; with_reducible rfl))
  try simp only [Act.put, List.setIfInBounds_toArray, List.set_cons_zero, List.set_cons_succ]
  refine wpAnyH_take (i := 26) (oi := { dst := some 113, op := Op.load 27 (Operand.tmp 7), type := 27, pos := "law.go:55", after := #[{ on := 25, ground := Ground.guard }], guard := some (25, false) }) (v := ?_) rfl (by kernel_rfl) (by kernel_rfl) (by kernel_rfl) (fun _ _ _ h => h) (Or.inl ⟨by rfl, ?_⟩) (by assumption) ?_
  rotate_left 1
  · (intro W hSW; (try dsimp only at hSW); first | (go_simp; done) | (go_simp; with_reducible rfl))
  try simp only [Act.put, List.setIfInBounds_toArray, List.set_cons_zero, List.set_cons_succ]
  refine wpAnyH_take (i := 27) (oi := { dst := some 114, op := Op.load 27 (Operand.tmp 7), type := 27, pos := "law.go:55", after := #[{ on := 25, ground := Ground.guard }], guard := some (25, false) }) (v := ?_) rfl (by kernel_rfl) (by kernel_rfl) (by kernel_rfl) (fun _ _ _ h => h) (Or.inl ⟨by rfl, ?_⟩) (by assumption) ?_
  rotate_left 1
  · (intro W hSW; (try dsimp only at hSW); first | (go_simp; done) | (go_simp; with_reducible rfl))
  try simp only [Act.put, List.setIfInBounds_toArray, List.set_cons_zero, List.set_cons_succ]
  refine wpAnyH_ready (rs := [28]) (by kernel_rfl) (by simp) ?_
  refine (AllReadyH.cons (o := { dst := some 115, op := Op.call { callee := Callee.value (Operand.func 19), args := #[Operand.tmp 113, Operand.tmp 114], argTypes := #[27, 27] }, type := 4, pos := "law.go:55", after := #[{ on := 26, ground := Ground.data }, { on := 27, ground := Ground.data }, { on := 25, ground := Ground.chain }, { on := 25, ground := Ground.guard }], guard := some (25, false) }) rfl (fun K hK => ?_) AllReadyH.nil)
  rw [if_pos (by rfl)]
  go_simp
  go_at_call 19
  refine (HE19S.out _ _ _ (Hrr.out.grown hgr22)).mono ?_
  rintro e wc28 ⟨rfl, gc28⟩
  have hgr28 := World.grownBy.trans hgr22 gc28
  go_wp2_with fail
  refine hK.out _ _ (HS.out _ hgr28) (fun hHeld => ?_)
  clear hK K
  try simp only [Act.put, List.setIfInBounds_toArray, List.set_cons_zero, List.set_cons_succ]
  refine wpAnyH_take (i := 29) (oi := { dst := some 116, op := Op.unOp UnOp.not 4 (Operand.tmp 115), type := 4, pos := "law.go:55", after := #[{ on := 28, ground := Ground.data }, { on := 25, ground := Ground.guard }], guard := some (25, false) }) (v := ?_) rfl (by kernel_rfl) (by kernel_rfl) (by kernel_rfl) (fun _ _ _ h => h) (Or.inl ⟨by rfl, ?_⟩) (by assumption) ?_
  rotate_left 1
  · (intro W hSW; (try dsimp only at hSW); first | (go_simp; done) | (go_simp; with_reducible rfl))
  try simp only [Act.put, List.setIfInBounds_toArray, List.set_cons_zero, List.set_cons_succ]
  refine wpAnyH_take (i := 30) (oi := { dst := some 117, op := Op.pick (Operand.tmp 112) (Operand.const (Value.bool true)) (Operand.tmp 116), type := 4, pos := "law.go:55", after := #[{ on := 25, ground := Ground.data }, { on := 29, ground := Ground.data }], guard := none }) (v := ?_) rfl (by kernel_rfl) (by kernel_rfl) (by kernel_rfl) (fun _ _ _ h => h) (Or.inl ⟨by rfl, ?_⟩) (by assumption) ?_
  rotate_left 1
  · (intro W hSW; (try dsimp only at hSW); first | (go_simp; done) | (go_simp; with_reducible rfl))
  try simp only [Act.put, List.setIfInBounds_toArray, List.set_cons_zero, List.set_cons_succ]
  refine wpAnyH_done (by kernel_rfl) ?_ _
  have hEND := hgr28
  clear hHeld
  obtain ⟨V18, rfl⟩ : ∃ z, z = wc28 := ⟨_, rfl⟩
  replace Hrr := Lib.hid (Hrr.out.grown hEND)
  replace Hrw := Lib.hid (Hrw.out.grown hEND)
  replace Ha := Lib.hid (Ha.out.grown hEND)
  replace Hb := Lib.hid (Hb.out.grown hEND)
  replace Hc := Lib.hid (Hc.out.grown hEND)
  replace Hcj := Lib.hid (Hcj.out.grown hEND)
  replace Hr1 := Lib.hid (Hr1.out.grown hEND)
  replace Hr2 := Lib.hid (Hr2.out.grown hEND)
  replace Hr3 := Lib.hid (Hr3.out.grown hEND)
  replace Hr4 := Lib.hid (Hr4.out.grown hEND)
  replace Hu := Lib.hid (Hu.out.grown hEND)
  replace HBR := Lib.hid (And.intro (World.grownBy.cell hEND HBR.out.1 (by simp)) (World.grownBy.cell hEND HBR.out.2 (by simp)))
  replace HBW := Lib.hid (And.intro (World.grownBy.cell hEND HBW.out.1 (by simp)) (World.grownBy.cell hEND HBW.out.2 (by simp)))
  replace HB14 := Lib.hid (And.intro (World.grownBy.cell hEND HB14.out.1 (by simp)) (World.grownBy.cell hEND HB14.out.2 (by simp)))
  replace HB15 := Lib.hid (And.intro (World.grownBy.cell hEND HB15.out.1 (by simp)) (World.grownBy.cell hEND HB15.out.2 (by simp)))
  replace HB16 := Lib.hid (And.intro (World.grownBy.cell hEND HB16.out.1 (by simp)) (World.grownBy.cell hEND HB16.out.2 (by simp)))
  replace HB17 := Lib.hid (And.intro (World.grownBy.cell hEND HB17.out.1 (by simp)) (World.grownBy.cell hEND HB17.out.2 (by simp)))
  replace HB19 := Lib.hid (And.intro (World.grownBy.cell hEND HB19.out.1 (by simp)) (World.grownBy.cell hEND HB19.out.2 (by simp)))
  replace HB21 := Lib.hid (And.intro (World.grownBy.cell hEND HB21.out.1 (by simp)) (World.grownBy.cell hEND HB21.out.2 (by simp)))
  replace HB23 := Lib.hid (And.intro (World.grownBy.cell hEND HB23.out.1 (by simp)) (World.grownBy.cell hEND HB23.out.2 (by simp)))
  replace HB25 := Lib.hid (And.intro (World.grownBy.cell hEND HB25.out.1 (by simp)) (World.grownBy.cell hEND HB25.out.2 (by simp)))
  replace HG := Lib.hid (World.grownBy.trans HG.out hEND)
  clear hEND HS  hdr hgr2 hgr5 hgr10 hgr13 hgr19 hgr22 hgr28 gc2 gc5 gc10 gc13 gc19 gc22 gc28
  have qBR0 := HBR.out.1
  have qBR1 := HBR.out.2
  have qBW0 := HBW.out.1
  have qBW1 := HBW.out.2
  have qB140 := HB14.out.1
  have qB141 := HB14.out.2
  have qB150 := HB15.out.1
  have qB151 := HB15.out.2
  have qB160 := HB16.out.1
  have qB161 := HB16.out.2
  have qB170 := HB17.out.1
  have qB171 := HB17.out.2
  have qB190 := HB19.out.1
  have qB191 := HB19.out.2
  have qB210 := HB21.out.1
  have qB211 := HB21.out.2
  have qB230 := HB23.out.1
  have qB231 := HB23.out.2
  have qB250 := HB25.out.1
  have qB251 := HB25.out.2
  go_upto_region 15 with fail
  clear qBR0 qBR1 qBW0 qBW1 qB140 qB141 qB150 qB151 qB160 qB161 qB170 qB171 qB190 qB191 qB210 qB211 qB230 qB231 qB250 qB251
  clear HBR
  clear HBW
  clear Hrr
  clear Hrw
  have qB140 := HB14.out.1
  have qB141 := HB14.out.2
  have qB150 := HB15.out.1
  have qB151 := HB15.out.2
  have qB160 := HB16.out.1
  have qB161 := HB16.out.2
  have qB170 := HB17.out.1
  have qB171 := HB17.out.2
  have qB190 := HB19.out.1
  have qB191 := HB19.out.2
  have qB210 := HB21.out.1
  have qB211 := HB21.out.2
  have qB230 := HB23.out.1
  have qB231 := HB23.out.2
  have qB250 := HB25.out.1
  have qB251 := HB25.out.2
  go_wp2_with fail
  clear qB140 qB141 qB150 qB151 qB160 qB161 qB170 qB171 qB190 qB191 qB210 qB211 qB230 qB231 qB250 qB251
  refine (requalV (k := qp) (Q := true) (qp : Nat) (qp : Nat) vLP.out hn5 hp3 (eqQ _ (rfl : LP = LP)) ZLP.out ZLP.out _ _ _ _ _ Hr1.out Hr2.out).mono ?_
  rintro e V19 ⟨rfl, g⟩
  replace Ha := Lib.hid (Ha.out.grown g)
  replace Hb := Lib.hid (Hb.out.grown g)
  replace Hc := Lib.hid (Hc.out.grown g)
  replace Hcj := Lib.hid (Hcj.out.grown g)
  replace Hr1 := Lib.hid (Hr1.out.grown g)
  replace Hr2 := Lib.hid (Hr2.out.grown g)
  replace Hr3 := Lib.hid (Hr3.out.grown g)
  replace Hr4 := Lib.hid (Hr4.out.grown g)
  replace Hu := Lib.hid (Hu.out.grown g)
  replace HB14 := Lib.hid (And.intro (World.grownBy.cell g HB14.out.1 (by simp)) (World.grownBy.cell g HB14.out.2 (by simp)))
  replace HB15 := Lib.hid (And.intro (World.grownBy.cell g HB15.out.1 (by simp)) (World.grownBy.cell g HB15.out.2 (by simp)))
  replace HB16 := Lib.hid (And.intro (World.grownBy.cell g HB16.out.1 (by simp)) (World.grownBy.cell g HB16.out.2 (by simp)))
  replace HB17 := Lib.hid (And.intro (World.grownBy.cell g HB17.out.1 (by simp)) (World.grownBy.cell g HB17.out.2 (by simp)))
  replace HB19 := Lib.hid (And.intro (World.grownBy.cell g HB19.out.1 (by simp)) (World.grownBy.cell g HB19.out.2 (by simp)))
  replace HB21 := Lib.hid (And.intro (World.grownBy.cell g HB21.out.1 (by simp)) (World.grownBy.cell g HB21.out.2 (by simp)))
  replace HB23 := Lib.hid (And.intro (World.grownBy.cell g HB23.out.1 (by simp)) (World.grownBy.cell g HB23.out.2 (by simp)))
  replace HB25 := Lib.hid (And.intro (World.grownBy.cell g HB25.out.1 (by simp)) (World.grownBy.cell g HB25.out.2 (by simp)))
  replace HG := Lib.hid (World.grownBy.trans HG.out g)
  clear g
  have qB140 := HB14.out.1
  have qB141 := HB14.out.2
  have qB150 := HB15.out.1
  have qB151 := HB15.out.2
  have qB160 := HB16.out.1
  have qB161 := HB16.out.2
  have qB170 := HB17.out.1
  have qB171 := HB17.out.2
  have qB190 := HB19.out.1
  have qB191 := HB19.out.2
  have qB210 := HB21.out.1
  have qB211 := HB21.out.2
  have qB230 := HB23.out.1
  have qB231 := HB23.out.2
  have qB250 := HB25.out.1
  have qB251 := HB25.out.2
  go_wp2_with fail
  clear qB140 qB141 qB150 qB151 qB160 qB161 qB170 qB171 qB190 qB191 qB210 qB211 qB230 qB231 qB250 qB251
  refine (requalV (k := qj) (Q := true) (qj : Nat) (qj : Nat) vLJ.out hn5 hq3 (eqQ _ (rfl : LJ = LJ)) ZLJ.out ZLJ.out _ _ _ _ _ Hr3.out Hr4.out).mono ?_
  rintro e V20 ⟨rfl, g⟩
  replace Ha := Lib.hid (Ha.out.grown g)
  replace Hb := Lib.hid (Hb.out.grown g)
  replace Hc := Lib.hid (Hc.out.grown g)
  replace Hcj := Lib.hid (Hcj.out.grown g)
  replace Hr1 := Lib.hid (Hr1.out.grown g)
  replace Hr2 := Lib.hid (Hr2.out.grown g)
  replace Hr3 := Lib.hid (Hr3.out.grown g)
  replace Hr4 := Lib.hid (Hr4.out.grown g)
  replace Hu := Lib.hid (Hu.out.grown g)
  replace HB14 := Lib.hid (And.intro (World.grownBy.cell g HB14.out.1 (by simp)) (World.grownBy.cell g HB14.out.2 (by simp)))
  replace HB15 := Lib.hid (And.intro (World.grownBy.cell g HB15.out.1 (by simp)) (World.grownBy.cell g HB15.out.2 (by simp)))
  replace HB16 := Lib.hid (And.intro (World.grownBy.cell g HB16.out.1 (by simp)) (World.grownBy.cell g HB16.out.2 (by simp)))
  replace HB17 := Lib.hid (And.intro (World.grownBy.cell g HB17.out.1 (by simp)) (World.grownBy.cell g HB17.out.2 (by simp)))
  replace HB19 := Lib.hid (And.intro (World.grownBy.cell g HB19.out.1 (by simp)) (World.grownBy.cell g HB19.out.2 (by simp)))
  replace HB21 := Lib.hid (And.intro (World.grownBy.cell g HB21.out.1 (by simp)) (World.grownBy.cell g HB21.out.2 (by simp)))
  replace HB23 := Lib.hid (And.intro (World.grownBy.cell g HB23.out.1 (by simp)) (World.grownBy.cell g HB23.out.2 (by simp)))
  replace HB25 := Lib.hid (And.intro (World.grownBy.cell g HB25.out.1 (by simp)) (World.grownBy.cell g HB25.out.2 (by simp)))
  replace HG := Lib.hid (World.grownBy.trans HG.out g)
  clear g
  have qB140 := HB14.out.1
  have qB141 := HB14.out.2
  have qB150 := HB15.out.1
  have qB151 := HB15.out.2
  have qB160 := HB16.out.1
  have qB161 := HB16.out.2
  have qB170 := HB17.out.1
  have qB171 := HB17.out.2
  have qB190 := HB19.out.1
  have qB191 := HB19.out.2
  have qB210 := HB21.out.1
  have qB211 := HB21.out.2
  have qB230 := HB23.out.1
  have qB231 := HB23.out.2
  have qB250 := HB25.out.1
  have qB251 := HB25.out.2
  go_upto_region 17 with fail
  clear qB140 qB141 qB150 qB151 qB160 qB161 qB170 qB171 qB190 qB191 qB210 qB211 qB230 qB231 qB250 qB251
  have HS := Lib.hid (fun (Wh : World) (hWh : V20.grownBy Wh none) => (⟨hWh, hWh.cell HB14.out.1 (by simp), hWh.cell HB14.out.2 (by simp), hWh.cell HB15.out.1 (by simp), hWh.cell HB15.out.2 (by simp), hWh.cell HB16.out.1 (by simp), hWh.cell HB16.out.2 (by simp), hWh.cell HB17.out.1 (by simp), hWh.cell HB17.out.2 (by simp), hWh.cell HB19.out.1 (by simp), hWh.cell HB19.out.2 (by simp), hWh.cell HB21.out.1 (by simp), hWh.cell HB21.out.2 (by simp), hWh.cell HB23.out.1 (by simp), hWh.cell HB23.out.2 (by simp), hWh.cell HB25.out.1 (by simp), hWh.cell HB25.out.2 (by simp)⟩ : (fun Wh : World => V20.grownBy Wh none ∧ Wh.cell? ⟨bB14, 0, none⟩ = some (.int .i64 (k : Nat)) ∧ Wh.cell? ⟨bB14, 1, none⟩ = some (.slice xa lL1 ya) ∧ Wh.cell? ⟨bB15, 0, none⟩ = some (.int .i64 (k : Nat)) ∧ Wh.cell? ⟨bB15, 1, none⟩ = some (.slice xb lL2 yb) ∧ Wh.cell? ⟨bB16, 0, none⟩ = some (.int .i64 (j : Nat)) ∧ Wh.cell? ⟨bB16, 1, none⟩ = some (.slice xcj lL4 ycj) ∧ Wh.cell? ⟨bB17, 0, none⟩ = some (.int .i64 (qp : Nat)) ∧ Wh.cell? ⟨bB17, 1, none⟩ = some (.slice xr1 lLP yr1) ∧ Wh.cell? ⟨bB19, 0, none⟩ = some (.int .i64 (qp : Nat)) ∧ Wh.cell? ⟨bB19, 1, none⟩ = some (.slice xr2 lLP yr2) ∧ Wh.cell? ⟨bB21, 0, none⟩ = some (.int .i64 (qj : Nat)) ∧ Wh.cell? ⟨bB21, 1, none⟩ = some (.slice xr3 lLJ yr3) ∧ Wh.cell? ⟨bB23, 0, none⟩ = some (.int .i64 (qj : Nat)) ∧ Wh.cell? ⟨bB23, 1, none⟩ = some (.slice xr4 lLJ yr4) ∧ Wh.cell? ⟨bB25, 0, none⟩ = some (.int .i64 2) ∧ Wh.cell? ⟨bB25, 1, none⟩ = some (.slice xu lL5 yu)) Wh))
  have hdr : V20.grownBy V20.drew none := ⟨rfl, rfl, rfl, Nat.le_refl _, fun _ _ _ => rfl⟩
  refine wp_region_held_drew (S := (fun Wh : World => V20.grownBy Wh none ∧ Wh.cell? ⟨bB14, 0, none⟩ = some (.int .i64 (k : Nat)) ∧ Wh.cell? ⟨bB14, 1, none⟩ = some (.slice xa lL1 ya) ∧ Wh.cell? ⟨bB15, 0, none⟩ = some (.int .i64 (k : Nat)) ∧ Wh.cell? ⟨bB15, 1, none⟩ = some (.slice xb lL2 yb) ∧ Wh.cell? ⟨bB16, 0, none⟩ = some (.int .i64 (j : Nat)) ∧ Wh.cell? ⟨bB16, 1, none⟩ = some (.slice xcj lL4 ycj) ∧ Wh.cell? ⟨bB17, 0, none⟩ = some (.int .i64 (qp : Nat)) ∧ Wh.cell? ⟨bB17, 1, none⟩ = some (.slice xr1 lLP yr1) ∧ Wh.cell? ⟨bB19, 0, none⟩ = some (.int .i64 (qp : Nat)) ∧ Wh.cell? ⟨bB19, 1, none⟩ = some (.slice xr2 lLP yr2) ∧ Wh.cell? ⟨bB21, 0, none⟩ = some (.int .i64 (qj : Nat)) ∧ Wh.cell? ⟨bB21, 1, none⟩ = some (.slice xr3 lLJ yr3) ∧ Wh.cell? ⟨bB23, 0, none⟩ = some (.int .i64 (qj : Nat)) ∧ Wh.cell? ⟨bB23, 1, none⟩ = some (.slice xr4 lLJ yr4) ∧ Wh.cell? ⟨bB25, 0, none⟩ = some (.int .i64 2) ∧ Wh.cell? ⟨bB25, 1, none⟩ = some (.slice xu lL5 yu))) (by kernel_rfl) (HS.out _ hdr) (fun hHeld => ?_)
  refine wpAnyH_take (i := 0) (oi := { dst := some 138, op := Op.move (Operand.tmp 12), type := 3, pos := "law.go:61", after := #[], guard := none }) (v := ?_) rfl (by kernel_rfl) (by kernel_rfl) (by kernel_rfl) (fun _ _ _ h => h) (Or.inl ⟨by rfl, ?_⟩) (by assumption) ?_
  rotate_left 1
  · (intro W hSW; (try dsimp only at hSW); first | (go_simp; done) | (go_simp; with_reducible rfl))
  try simp only [Act.put, List.setIfInBounds_toArray, List.set_cons_zero, List.set_cons_succ]
  refine wpAnyH_take (i := 1) (oi := { dst := some 139, op := Op.load 27 (Operand.tmp 25), type := 27, pos := "law.go:61", after := #[], guard := none }) (v := ?_) rfl (by kernel_rfl) (by kernel_rfl) (by kernel_rfl) (fun _ _ _ h => h) (Or.inl ⟨by rfl, ?_⟩) (by assumption) ?_
  rotate_left 1
  · (intro W hSW; (try dsimp only at hSW); first | (go_simp; done) | (go_simp; with_reducible rfl))
  try simp only [Act.put, List.setIfInBounds_toArray, List.set_cons_zero, List.set_cons_succ]
  refine wpAnyH_take (i := 3) (oi := { dst := some 141, op := Op.move (Operand.tmp 12), type := 3, pos := "law.go:61", after := #[], guard := none }) (v := ?_) rfl (by kernel_rfl) (by kernel_rfl) (by kernel_rfl) (fun _ _ _ h => h) (Or.inl ⟨by rfl, ?_⟩) (by assumption) ?_
  rotate_left 1
  · (intro W hSW; (try dsimp only at hSW); first | (go_simp; done) | (go_simp; with_reducible rfl))
  try simp only [Act.put, List.setIfInBounds_toArray, List.set_cons_zero, List.set_cons_succ]
  refine wpAnyH_take (i := 4) (oi := { dst := some 142, op := Op.load 27 (Operand.tmp 25), type := 27, pos := "law.go:61", after := #[], guard := none }) (v := ?_) rfl (by kernel_rfl) (by kernel_rfl) (by kernel_rfl) (fun _ _ _ h => h) (Or.inl ⟨by rfl, ?_⟩) (by assumption) ?_
  rotate_left 1
  · (intro W hSW; (try dsimp only at hSW); first | (go_simp; done) | (go_simp; with_reducible rfl))
  try simp only [Act.put, List.setIfInBounds_toArray, List.set_cons_zero, List.set_cons_succ]
  refine wpAnyH_ready (rs := [2]) (by kernel_rfl) (by simp) ?_
  refine (AllReadyH.cons (o := { dst := some 140, op := Op.call { callee := Callee.value (Operand.func 21), args := #[Operand.tmp 138, Operand.tmp 139], argTypes := #[3, 27] }, type := 27, pos := "law.go:61", after := #[{ on := 0, ground := Ground.data }, { on := 1, ground := Ground.data }], guard := none }) rfl (fun K hK => ?_) AllReadyH.nil)
  rw [if_pos (by rfl)]
  go_simp
  go_at_call 21
  refine (turnV vL5.out hn1 hn5 (by rw [← EL5.out]; exact EL6.out) ZL5.out ZL6.out _ _ _ (Hu.out.grown hdr)).mono ?_
  rintro e wc2 ⟨xr14, yr14, rfl, hrr14, gc2⟩
  have hgr2 := World.grownBy.trans hdr gc2
  go_wp2_with fail
  refine hK.out _ _ (HS.out _ hgr2) (fun hHeld => ?_)
  clear hK K
  try simp only [Act.put, List.setIfInBounds_toArray, List.set_cons_zero, List.set_cons_succ]
  refine wpAnyH_ready (rs := [5]) (by kernel_rfl) (by simp) ?_
  refine (AllReadyH.cons (o := { dst := some 143, op := Op.call { callee := Callee.value (Operand.func 22), args := #[Operand.tmp 141, Operand.tmp 142], argTypes := #[3, 27] }, type := 27, pos := "law.go:61", after := #[{ on := 3, ground := Ground.data }, { on := 4, ground := Ground.data }, { on := 2, ground := Ground.chain }], guard := none }) rfl (fun K hK => ?_) AllReadyH.nil)
  rw [if_pos (by rfl)]
  go_simp
  go_at_call 22
  refine (rturnV vL5.out hn1 hn5 (by rw [← EL5.out]; exact EL6.out) ZL5.out ZL6.out _ _ _ (Hu.out.grown hgr2)).mono ?_
  rintro e wc5 ⟨xr15, yr15, rfl, hrr15, gc5⟩
  have hgr5 := World.grownBy.trans hgr2 gc5
  go_wp2_with fail
  refine hK.out _ _ (HS.out _ hgr5) (fun hHeld => ?_)
  clear hK K
  try simp only [Act.put, List.setIfInBounds_toArray, List.set_cons_zero, List.set_cons_succ]
  refine wpAnyH_ready (rs := [6]) (by kernel_rfl) (by simp) ?_
  refine (AllReadyH.cons (o := { dst := some 144, op := Op.call { callee := Callee.value (Operand.func 20), args := #[Operand.tmp 140, Operand.tmp 143], argTypes := #[27, 27] }, type := 4, pos := "law.go:61", after := #[{ on := 2, ground := Ground.data }, { on := 5, ground := Ground.data }, { on := 5, ground := Ground.chain }], guard := none }) rfl (fun K hK => ?_) AllReadyH.nil)
  rw [if_pos (by rfl)]
  go_simp
  go_at_call 20
  refine (requalV (k := 2) (Q := true) (2 : Nat) (2 : Nat) vL6.out hn5 (by omega) (eqQ _ (rfl : L6 = L6)) ZL6.out ZL6.out _ _ _ _ _ (hrr14.grown gc5) hrr15).mono ?_
  rintro e wc6 ⟨rfl, gc6⟩
  have hgr6 := World.grownBy.trans hgr5 gc6
  go_wp2_with fail
  refine hK.out _ _ (HS.out _ hgr6) (fun hHeld => ?_)
  clear hK K
  try simp only [Act.put, List.setIfInBounds_toArray, List.set_cons_zero, List.set_cons_succ]
  refine wpAnyH_take (i := 7) (oi := { dst := some 145, op := Op.unOp UnOp.not 4 (Operand.tmp 144), type := 4, pos := "law.go:61", after := #[{ on := 6, ground := Ground.data }], guard := none }) (v := ?_) rfl (by kernel_rfl) (by kernel_rfl) (by kernel_rfl) (fun _ _ _ h => h) (Or.inl ⟨by rfl, ?_⟩) (by assumption) ?_
  rotate_left 1
  · (intro W hSW; (try dsimp only at hSW); first | (go_simp; done) | (go_simp; with_reducible rfl))
  try simp only [Act.put, List.setIfInBounds_toArray, List.set_cons_zero, List.set_cons_succ]
  refine wpAnyH_take (i := 8) (oi := { dst := some 146, op := Op.move (Operand.tmp 145), type := 4, pos := "law.go:61", after := #[{ on := 7, ground := Ground.data }, { on := 6, ground := Ground.chain }], guard := none }) (v := ?_) rfl (by kernel_rfl) (by kernel_rfl) (by kernel_rfl) (fun _ _ _ h => h) (Or.inl ⟨by rfl, ?_⟩) (by assumption) ?_
  rotate_left 1
  · (intro W hSW; (try dsimp only at hSW); first | (go_simp; done) | (go_simp; with_reducible rfl))
  try simp only [Act.put, List.setIfInBounds_toArray, List.set_cons_zero, List.set_cons_succ]
  refine wpAnyH_take (i := 9) (oi := { dst := some 147, op := Op.move (Operand.tmp 12), type := 3, pos := "law.go:61", after := #[{ on := 8, ground := Ground.guard }], guard := some (8, false) }) (v := ?_) rfl (by kernel_rfl) (by kernel_rfl) (by kernel_rfl) (fun _ _ _ h => h) (Or.inl ⟨by rfl, ?_⟩) (by assumption) ?_
  rotate_left 1
  · (intro W hSW; (try dsimp only at hSW); first | (go_simp; done) | (go_simp; with_reducible rfl))
  try simp only [Act.put, List.setIfInBounds_toArray, List.set_cons_zero, List.set_cons_succ]
  refine wpAnyH_take (i := 10) (oi := { dst := some 148, op := Op.load 27 (Operand.tmp 25), type := 27, pos := "law.go:61", after := #[{ on := 8, ground := Ground.guard }], guard := some (8, false) }) (v := ?_) rfl (by kernel_rfl) (by kernel_rfl) (by kernel_rfl) (fun _ _ _ h => h) (Or.inl ⟨by rfl, ?_⟩) (by assumption) ?_
  rotate_left 1
  · (intro W hSW; (try dsimp only at hSW); first | (go_simp; done) | (go_simp; with_reducible rfl))
  try simp only [Act.put, List.setIfInBounds_toArray, List.set_cons_zero, List.set_cons_succ]
  refine wpAnyH_take (i := 12) (oi := { dst := some 150, op := Op.move (Operand.tmp 12), type := 3, pos := "law.go:61", after := #[{ on := 8, ground := Ground.guard }], guard := some (8, false) }) (v := ?_) rfl (by kernel_rfl) (by kernel_rfl) (by kernel_rfl) (fun _ _ _ h => h) (Or.inl ⟨by rfl, ?_⟩) (by assumption) ?_
  rotate_left 1
  · (intro W hSW; (try dsimp only at hSW); first | (go_simp; done) | (go_simp; with_reducible rfl))
  try simp only [Act.put, List.setIfInBounds_toArray, List.set_cons_zero, List.set_cons_succ]
  refine wpAnyH_take (i := 13) (oi := { dst := some 151, op := Op.load 27 (Operand.tmp 25), type := 27, pos := "law.go:61", after := #[{ on := 8, ground := Ground.guard }], guard := some (8, false) }) (v := ?_) rfl (by kernel_rfl) (by kernel_rfl) (by kernel_rfl) (fun _ _ _ h => h) (Or.inl ⟨by rfl, ?_⟩) (by assumption) ?_
  rotate_left 1
  · (intro W hSW; (try dsimp only at hSW); first | (go_simp; done) | (go_simp; with_reducible rfl))
  try simp only [Act.put, List.setIfInBounds_toArray, List.set_cons_zero, List.set_cons_succ]
  refine wpAnyH_ready (rs := [11]) (by kernel_rfl) (by simp) ?_
  refine (AllReadyH.cons (o := { dst := some 149, op := Op.call { callee := Callee.value (Operand.func 23), args := #[Operand.tmp 147, Operand.tmp 148], argTypes := #[3, 27] }, type := 27, pos := "law.go:61", after := #[{ on := 9, ground := Ground.data }, { on := 10, ground := Ground.data }, { on := 8, ground := Ground.chain }, { on := 8, ground := Ground.guard }], guard := some (8, false) }) rfl (fun K hK => ?_) AllReadyH.nil)
  rw [if_pos (by rfl)]
  go_simp
  go_at_call 23
  refine (closV vL5.out hn5 (by rw [← EL5.out]; exact EL7.out) ZL5.out ZL7.out _ _ _ (Hu.out.grown hgr6)).mono ?_
  rintro e wc11 ⟨xr17, yr17, rfl, hrr17, gc11⟩
  have hgr11 := World.grownBy.trans hgr6 gc11
  go_wp2_with fail
  refine hK.out _ _ (HS.out _ hgr11) (fun hHeld => ?_)
  clear hK K
  try simp only [Act.put, List.setIfInBounds_toArray, List.set_cons_zero, List.set_cons_succ]
  refine wpAnyH_ready (rs := [14]) (by kernel_rfl) (by simp) ?_
  refine (AllReadyH.cons (o := { dst := some 152, op := Op.call { callee := Callee.value (Operand.func 24), args := #[Operand.tmp 150, Operand.tmp 151], argTypes := #[3, 27] }, type := 27, pos := "law.go:61", after := #[{ on := 12, ground := Ground.data }, { on := 13, ground := Ground.data }, { on := 11, ground := Ground.chain }, { on := 8, ground := Ground.guard }], guard := some (8, false) }) rfl (fun K hK => ?_) AllReadyH.nil)
  rw [if_pos (by rfl)]
  go_simp
  go_at_call 24
  refine (rclosV vL5.out hn5 (by rw [← EL5.out]; exact EL7.out) ZL5.out ZL7.out _ _ _ (Hu.out.grown hgr11)).mono ?_
  rintro e wc14 ⟨xr18, yr18, rfl, hrr18, gc14⟩
  have hgr14 := World.grownBy.trans hgr11 gc14
  go_wp2_with fail
  refine hK.out _ _ (HS.out _ hgr14) (fun hHeld => ?_)
  clear hK K
  try simp only [Act.put, List.setIfInBounds_toArray, List.set_cons_zero, List.set_cons_succ]
  refine wpAnyH_ready (rs := [15]) (by kernel_rfl) (by simp) ?_
  refine (AllReadyH.cons (o := { dst := some 153, op := Op.call { callee := Callee.value (Operand.func 20), args := #[Operand.tmp 149, Operand.tmp 152], argTypes := #[27, 27] }, type := 4, pos := "law.go:61", after := #[{ on := 11, ground := Ground.data }, { on := 14, ground := Ground.data }, { on := 14, ground := Ground.chain }, { on := 8, ground := Ground.guard }], guard := some (8, false) }) rfl (fun K hK => ?_) AllReadyH.nil)
  rw [if_pos (by rfl)]
  go_simp
  go_at_call 20
  refine (requalV (k := 2) (Q := true) (2 : Nat) (2 : Nat) vL7.out hn5 (by omega) (eqQ _ (rfl : L7 = L7)) ZL7.out ZL7.out _ _ _ _ _ (hrr17.grown gc14) hrr18).mono ?_
  rintro e wc15 ⟨rfl, gc15⟩
  have hgr15 := World.grownBy.trans hgr14 gc15
  go_wp2_with fail
  refine hK.out _ _ (HS.out _ hgr15) (fun hHeld => ?_)
  clear hK K
  try simp only [Act.put, List.setIfInBounds_toArray, List.set_cons_zero, List.set_cons_succ]
  refine wpAnyH_take (i := 16) (oi := { dst := some 154, op := Op.unOp UnOp.not 4 (Operand.tmp 153), type := 4, pos := "law.go:61", after := #[{ on := 15, ground := Ground.data }, { on := 8, ground := Ground.guard }], guard := some (8, false) }) (v := ?_) rfl (by kernel_rfl) (by kernel_rfl) (by kernel_rfl) (fun _ _ _ h => h) (Or.inl ⟨by rfl, ?_⟩) (by assumption) ?_
  rotate_left 1
  · (intro W hSW; (try dsimp only at hSW); first | (go_simp; done) | (go_simp; with_reducible rfl))
  try simp only [Act.put, List.setIfInBounds_toArray, List.set_cons_zero, List.set_cons_succ]
  refine wpAnyH_take (i := 17) (oi := { dst := some 155, op := Op.pick (Operand.tmp 146) (Operand.const (Value.bool true)) (Operand.tmp 154), type := 4, pos := "law.go:61", after := #[{ on := 8, ground := Ground.data }, { on := 16, ground := Ground.data }], guard := none }) (v := ?_) rfl (by kernel_rfl) (by kernel_rfl) (by kernel_rfl) (fun _ _ _ h => h) (Or.inl ⟨by rfl, ?_⟩) (by assumption) ?_
  rotate_left 1
  · (intro W hSW; (try dsimp only at hSW); first | (go_simp; done) | (go_simp; with_reducible rfl))
  try simp only [Act.put, List.setIfInBounds_toArray, List.set_cons_zero, List.set_cons_succ]
  refine wpAnyH_take (i := 18) (oi := { dst := some 156, op := Op.move (Operand.tmp 155), type := 4, pos := "law.go:61", after := #[{ on := 17, ground := Ground.data }, { on := 15, ground := Ground.chain }], guard := none }) (v := ?_) rfl (by kernel_rfl) (by kernel_rfl) (by kernel_rfl) (fun _ _ _ h => h) (Or.inl ⟨by rfl, ?_⟩) (by assumption) ?_
  rotate_left 1
  · (intro W hSW; (try dsimp only at hSW); first | (go_simp; done) | (go_simp; with_reducible rfl))
  try simp only [Act.put, List.setIfInBounds_toArray, List.set_cons_zero, List.set_cons_succ]
  refine wpAnyH_take (i := 19) (oi := { dst := some 157, op := Op.move (Operand.tmp 12), type := 3, pos := "law.go:61", after := #[{ on := 18, ground := Ground.guard }], guard := some (18, false) }) (v := ?_) rfl (by kernel_rfl) (by kernel_rfl) (by kernel_rfl) (fun _ _ _ h => h) (Or.inl ⟨by rfl, ?_⟩) (by assumption) ?_
  rotate_left 1
  · (intro W hSW; (try dsimp only at hSW); first | (go_simp; done) | (go_simp; with_reducible rfl))
  try simp only [Act.put, List.setIfInBounds_toArray, List.set_cons_zero, List.set_cons_succ]
  refine wpAnyH_take (i := 21) (oi := { dst := some 159, op := Op.move (Operand.tmp 12), type := 3, pos := "law.go:61", after := #[{ on := 18, ground := Ground.guard }], guard := some (18, false) }) (v := ?_) rfl (by kernel_rfl) (by kernel_rfl) (by kernel_rfl) (fun _ _ _ h => h) (Or.inl ⟨by rfl, ?_⟩) (by assumption) ?_
  rotate_left 1
  · (intro W hSW; (try dsimp only at hSW); first | (go_simp; done) | (go_simp; with_reducible rfl))
  try simp only [Act.put, List.setIfInBounds_toArray, List.set_cons_zero, List.set_cons_succ]
  refine wpAnyH_ready (rs := [20]) (by kernel_rfl) (by simp) ?_
  refine (AllReadyH.cons (o := { dst := some 158, op := Op.call { callee := Callee.value (Operand.func 25), args := #[Operand.tmp 157], argTypes := #[3] }, type := 27, pos := "law.go:61", after := #[{ on := 19, ground := Ground.data }, { on := 18, ground := Ground.chain }, { on := 18, ground := Ground.guard }], guard := some (18, false) }) rfl (fun K hK => ?_) AllReadyH.nil)
  rw [if_pos (by rfl)]
  go_simp
  go_at_call 25
  refine (idenV hn5 EL8.out ZL8.out _).mono ?_
  rintro e wc20 ⟨xr20, yr20, rfl, hrr20, gc20⟩
  have hgr20 := World.grownBy.trans hgr15 gc20
  go_wp2_with fail
  refine hK.out _ _ (HS.out _ hgr20) (fun hHeld => ?_)
  clear hK K
  try simp only [Act.put, List.setIfInBounds_toArray, List.set_cons_zero, List.set_cons_succ]
  refine wpAnyH_ready (rs := [22]) (by kernel_rfl) (by simp) ?_
  refine (AllReadyH.cons (o := { dst := some 160, op := Op.call { callee := Callee.value (Operand.func 26), args := #[Operand.tmp 159], argTypes := #[3] }, type := 27, pos := "law.go:61", after := #[{ on := 21, ground := Ground.data }, { on := 20, ground := Ground.chain }, { on := 18, ground := Ground.guard }], guard := some (18, false) }) rfl (fun K hK => ?_) AllReadyH.nil)
  rw [if_pos (by rfl)]
  go_simp
  go_at_call 26
  refine (ridenV hn5 EL8.out ZL8.out _).mono ?_
  rintro e wc22 ⟨xr21, yr21, rfl, hrr21, gc22⟩
  have hgr22 := World.grownBy.trans hgr20 gc22
  go_wp2_with fail
  refine hK.out _ _ (HS.out _ hgr22) (fun hHeld => ?_)
  clear hK K
  try simp only [Act.put, List.setIfInBounds_toArray, List.set_cons_zero, List.set_cons_succ]
  refine wpAnyH_ready (rs := [23]) (by kernel_rfl) (by simp) ?_
  refine (AllReadyH.cons (o := { dst := some 161, op := Op.call { callee := Callee.value (Operand.func 20), args := #[Operand.tmp 158, Operand.tmp 160], argTypes := #[27, 27] }, type := 4, pos := "law.go:61", after := #[{ on := 20, ground := Ground.data }, { on := 22, ground := Ground.data }, { on := 22, ground := Ground.chain }, { on := 18, ground := Ground.guard }], guard := some (18, false) }) rfl (fun K hK => ?_) AllReadyH.nil)
  rw [if_pos (by rfl)]
  go_simp
  go_at_call 20
  refine (requalV (k := 2) (Q := true) (2 : Nat) (2 : Nat) vL8.out hn5 (by omega) (eqQ _ (rfl : L8 = L8)) ZL8.out ZL8.out _ _ _ _ _ (hrr20.grown gc22) hrr21).mono ?_
  rintro e wc23 ⟨rfl, gc23⟩
  have hgr23 := World.grownBy.trans hgr22 gc23
  go_wp2_with fail
  refine hK.out _ _ (HS.out _ hgr23) (fun hHeld => ?_)
  clear hK K
  try simp only [Act.put, List.setIfInBounds_toArray, List.set_cons_zero, List.set_cons_succ]
  refine wpAnyH_take (i := 24) (oi := { dst := some 162, op := Op.unOp UnOp.not 4 (Operand.tmp 161), type := 4, pos := "law.go:61", after := #[{ on := 23, ground := Ground.data }, { on := 18, ground := Ground.guard }], guard := some (18, false) }) (v := ?_) rfl (by kernel_rfl) (by kernel_rfl) (by kernel_rfl) (fun _ _ _ h => h) (Or.inl ⟨by rfl, ?_⟩) (by assumption) ?_
  rotate_left 1
  · (intro W hSW; (try dsimp only at hSW); first | (go_simp; done) | (go_simp; with_reducible rfl))
  try simp only [Act.put, List.setIfInBounds_toArray, List.set_cons_zero, List.set_cons_succ]
  refine wpAnyH_take (i := 25) (oi := { dst := some 163, op := Op.pick (Operand.tmp 156) (Operand.const (Value.bool true)) (Operand.tmp 162), type := 4, pos := "law.go:61", after := #[{ on := 18, ground := Ground.data }, { on := 24, ground := Ground.data }], guard := none }) (v := ?_) rfl (by kernel_rfl) (by kernel_rfl) (by kernel_rfl) (fun _ _ _ h => h) (Or.inl ⟨by rfl, ?_⟩) (by assumption) ?_
  rotate_left 1
  · (intro W hSW; (try dsimp only at hSW); first | (go_simp; done) | (go_simp; with_reducible rfl))
  try simp only [Act.put, List.setIfInBounds_toArray, List.set_cons_zero, List.set_cons_succ]
  refine wpAnyH_done (by kernel_rfl) ?_ _
  have hEND := hgr23
  clear hHeld
  obtain ⟨V21, rfl⟩ : ∃ z, z = wc23 := ⟨_, rfl⟩
  replace Ha := Lib.hid (Ha.out.grown hEND)
  replace Hb := Lib.hid (Hb.out.grown hEND)
  replace Hc := Lib.hid (Hc.out.grown hEND)
  replace Hcj := Lib.hid (Hcj.out.grown hEND)
  replace Hr1 := Lib.hid (Hr1.out.grown hEND)
  replace Hr2 := Lib.hid (Hr2.out.grown hEND)
  replace Hr3 := Lib.hid (Hr3.out.grown hEND)
  replace Hr4 := Lib.hid (Hr4.out.grown hEND)
  replace Hu := Lib.hid (Hu.out.grown hEND)
  replace HB14 := Lib.hid (And.intro (World.grownBy.cell hEND HB14.out.1 (by simp)) (World.grownBy.cell hEND HB14.out.2 (by simp)))
  replace HB15 := Lib.hid (And.intro (World.grownBy.cell hEND HB15.out.1 (by simp)) (World.grownBy.cell hEND HB15.out.2 (by simp)))
  replace HB16 := Lib.hid (And.intro (World.grownBy.cell hEND HB16.out.1 (by simp)) (World.grownBy.cell hEND HB16.out.2 (by simp)))
  replace HB17 := Lib.hid (And.intro (World.grownBy.cell hEND HB17.out.1 (by simp)) (World.grownBy.cell hEND HB17.out.2 (by simp)))
  replace HB19 := Lib.hid (And.intro (World.grownBy.cell hEND HB19.out.1 (by simp)) (World.grownBy.cell hEND HB19.out.2 (by simp)))
  replace HB21 := Lib.hid (And.intro (World.grownBy.cell hEND HB21.out.1 (by simp)) (World.grownBy.cell hEND HB21.out.2 (by simp)))
  replace HB23 := Lib.hid (And.intro (World.grownBy.cell hEND HB23.out.1 (by simp)) (World.grownBy.cell hEND HB23.out.2 (by simp)))
  replace HB25 := Lib.hid (And.intro (World.grownBy.cell hEND HB25.out.1 (by simp)) (World.grownBy.cell hEND HB25.out.2 (by simp)))
  replace HG := Lib.hid (World.grownBy.trans HG.out hEND)
  clear hEND HS hrr14 hrr15 hrr17 hrr18 hrr20 hrr21 hdr hgr2 hgr5 hgr6 hgr11 hgr14 hgr15 hgr20 hgr22 hgr23 gc2 gc5 gc6 gc11 gc14 gc15 gc20 gc22 gc23
  have qB140 := HB14.out.1
  have qB141 := HB14.out.2
  have qB150 := HB15.out.1
  have qB151 := HB15.out.2
  have qB160 := HB16.out.1
  have qB161 := HB16.out.2
  have qB170 := HB17.out.1
  have qB171 := HB17.out.2
  have qB190 := HB19.out.1
  have qB191 := HB19.out.2
  have qB210 := HB21.out.1
  have qB211 := HB21.out.2
  have qB230 := HB23.out.1
  have qB231 := HB23.out.2
  have qB250 := HB25.out.1
  have qB251 := HB25.out.2
  go_upto_region 19 with fail
  clear qB140 qB141 qB150 qB151 qB160 qB161 qB170 qB171 qB190 qB191 qB210 qB211 qB230 qB231 qB250 qB251
  have HS := Lib.hid (fun (Wh : World) (hWh : V21.grownBy Wh none) => (⟨hWh, hWh.cell HB14.out.1 (by simp), hWh.cell HB14.out.2 (by simp), hWh.cell HB15.out.1 (by simp), hWh.cell HB15.out.2 (by simp), hWh.cell HB16.out.1 (by simp), hWh.cell HB16.out.2 (by simp), hWh.cell HB17.out.1 (by simp), hWh.cell HB17.out.2 (by simp), hWh.cell HB19.out.1 (by simp), hWh.cell HB19.out.2 (by simp), hWh.cell HB21.out.1 (by simp), hWh.cell HB21.out.2 (by simp), hWh.cell HB23.out.1 (by simp), hWh.cell HB23.out.2 (by simp), hWh.cell HB25.out.1 (by simp), hWh.cell HB25.out.2 (by simp)⟩ : (fun Wh : World => V21.grownBy Wh none ∧ Wh.cell? ⟨bB14, 0, none⟩ = some (.int .i64 (k : Nat)) ∧ Wh.cell? ⟨bB14, 1, none⟩ = some (.slice xa lL1 ya) ∧ Wh.cell? ⟨bB15, 0, none⟩ = some (.int .i64 (k : Nat)) ∧ Wh.cell? ⟨bB15, 1, none⟩ = some (.slice xb lL2 yb) ∧ Wh.cell? ⟨bB16, 0, none⟩ = some (.int .i64 (j : Nat)) ∧ Wh.cell? ⟨bB16, 1, none⟩ = some (.slice xcj lL4 ycj) ∧ Wh.cell? ⟨bB17, 0, none⟩ = some (.int .i64 (qp : Nat)) ∧ Wh.cell? ⟨bB17, 1, none⟩ = some (.slice xr1 lLP yr1) ∧ Wh.cell? ⟨bB19, 0, none⟩ = some (.int .i64 (qp : Nat)) ∧ Wh.cell? ⟨bB19, 1, none⟩ = some (.slice xr2 lLP yr2) ∧ Wh.cell? ⟨bB21, 0, none⟩ = some (.int .i64 (qj : Nat)) ∧ Wh.cell? ⟨bB21, 1, none⟩ = some (.slice xr3 lLJ yr3) ∧ Wh.cell? ⟨bB23, 0, none⟩ = some (.int .i64 (qj : Nat)) ∧ Wh.cell? ⟨bB23, 1, none⟩ = some (.slice xr4 lLJ yr4) ∧ Wh.cell? ⟨bB25, 0, none⟩ = some (.int .i64 2) ∧ Wh.cell? ⟨bB25, 1, none⟩ = some (.slice xu lL5 yu)) Wh))
  have hdr : V21.grownBy V21.drew none := ⟨rfl, rfl, rfl, Nat.le_refl _, fun _ _ _ => rfl⟩
  refine wp_region_held_drew (S := (fun Wh : World => V21.grownBy Wh none ∧ Wh.cell? ⟨bB14, 0, none⟩ = some (.int .i64 (k : Nat)) ∧ Wh.cell? ⟨bB14, 1, none⟩ = some (.slice xa lL1 ya) ∧ Wh.cell? ⟨bB15, 0, none⟩ = some (.int .i64 (k : Nat)) ∧ Wh.cell? ⟨bB15, 1, none⟩ = some (.slice xb lL2 yb) ∧ Wh.cell? ⟨bB16, 0, none⟩ = some (.int .i64 (j : Nat)) ∧ Wh.cell? ⟨bB16, 1, none⟩ = some (.slice xcj lL4 ycj) ∧ Wh.cell? ⟨bB17, 0, none⟩ = some (.int .i64 (qp : Nat)) ∧ Wh.cell? ⟨bB17, 1, none⟩ = some (.slice xr1 lLP yr1) ∧ Wh.cell? ⟨bB19, 0, none⟩ = some (.int .i64 (qp : Nat)) ∧ Wh.cell? ⟨bB19, 1, none⟩ = some (.slice xr2 lLP yr2) ∧ Wh.cell? ⟨bB21, 0, none⟩ = some (.int .i64 (qj : Nat)) ∧ Wh.cell? ⟨bB21, 1, none⟩ = some (.slice xr3 lLJ yr3) ∧ Wh.cell? ⟨bB23, 0, none⟩ = some (.int .i64 (qj : Nat)) ∧ Wh.cell? ⟨bB23, 1, none⟩ = some (.slice xr4 lLJ yr4) ∧ Wh.cell? ⟨bB25, 0, none⟩ = some (.int .i64 2) ∧ Wh.cell? ⟨bB25, 1, none⟩ = some (.slice xu lL5 yu))) (by kernel_rfl) (HS.out _ hdr) (fun hHeld => ?_)
  refine wpAnyH_take (i := 0) (oi := { dst := some 164, op := Op.move (Operand.tmp 11), type := 4, pos := "law.go:64", after := #[], guard := none }) (v := ?_) rfl (by kernel_rfl) (by kernel_rfl) (by kernel_rfl) (fun _ _ _ h => h) (Or.inl ⟨by rfl, ?_⟩) (by assumption) ?_
  rotate_left 1
  · (intro W hSW; (try dsimp only at hSW); first | (go_simp; done) | (go_simp; with_reducible rfl))
  try simp only [Act.put, List.setIfInBounds_toArray, List.set_cons_zero, List.set_cons_succ]
  refine wpAnyH_take (i := 1) (oi := { dst := some 165, op := Op.move (Operand.tmp 164), type := 4, pos := "law.go:64", after := #[{ on := 0, ground := Ground.data }], guard := none }) (v := ?_) rfl (by kernel_rfl) (by kernel_rfl) (by kernel_rfl) (fun _ _ _ h => h) (Or.inl ⟨by rfl, ?_⟩) (by assumption) ?_
  rotate_left 1
  · (intro W hSW; (try dsimp only at hSW); first | (go_simp; done) | (go_simp; with_reducible rfl))
  try simp only [Act.put, List.setIfInBounds_toArray, List.set_cons_zero, List.set_cons_succ]
  refine wpAnyH_take (i := 2) (oi := { dst := some 166, op := Op.load 27 (Operand.tmp 14), type := 27, pos := "law.go:64", after := #[{ on := 1, ground := Ground.guard }], guard := some (1, true) }) (v := ?_) rfl (by kernel_rfl) (by kernel_rfl) (by kernel_rfl) (fun _ _ _ h => h) (Or.inl ⟨by rfl, ?_⟩) (by assumption) ?_
  rotate_left 1
  · (intro W hSW; (try dsimp only at hSW); first | (go_simp; done) | (go_simp; with_reducible rfl))
  try simp only [Act.put, List.setIfInBounds_toArray, List.set_cons_zero, List.set_cons_succ]
  refine wpAnyH_take (i := 3) (oi := { dst := some 167, op := Op.load 27 (Operand.tmp 15), type := 27, pos := "law.go:64", after := #[{ on := 1, ground := Ground.guard }], guard := some (1, true) }) (v := ?_) rfl (by kernel_rfl) (by kernel_rfl) (by kernel_rfl) (fun _ _ _ h => h) (Or.inl ⟨by rfl, ?_⟩) (by assumption) ?_
  rotate_left 1
  · (intro W hSW; (try dsimp only at hSW); first | (go_simp; done) | (go_simp; with_reducible rfl))
  try simp only [Act.put, List.setIfInBounds_toArray, List.set_cons_zero, List.set_cons_succ]
  refine wpAnyH_take (i := 5) (oi := { dst := some 169, op := Op.load 27 (Operand.tmp 14), type := 27, pos := "law.go:64", after := #[{ on := 1, ground := Ground.guard }], guard := some (1, true) }) (v := ?_) rfl (by kernel_rfl) (by kernel_rfl) (by kernel_rfl) (fun _ _ _ h => h) (Or.inl ⟨by rfl, ?_⟩) (by assumption) ?_
  rotate_left 1
  · (intro W hSW; (try dsimp only at hSW); first | (go_simp; done) | (go_simp; with_reducible rfl))
  try simp only [Act.put, List.setIfInBounds_toArray, List.set_cons_zero, List.set_cons_succ]
  refine wpAnyH_take (i := 6) (oi := { dst := some 170, op := Op.load 27 (Operand.tmp 15), type := 27, pos := "law.go:64", after := #[{ on := 1, ground := Ground.guard }], guard := some (1, true) }) (v := ?_) rfl (by kernel_rfl) (by kernel_rfl) (by kernel_rfl) (fun _ _ _ h => h) (Or.inl ⟨by rfl, ?_⟩) (by assumption) ?_
  rotate_left 1
  · (intro W hSW; (try dsimp only at hSW); first | (go_simp; done) | (go_simp; with_reducible rfl))
  try simp only [Act.put, List.setIfInBounds_toArray, List.set_cons_zero, List.set_cons_succ]
  refine wpAnyH_ready (rs := [4]) (by kernel_rfl) (by simp) ?_
  refine (AllReadyH.cons (o := { dst := some 168, op := Op.call { callee := Callee.value (Operand.func 27), args := #[Operand.tmp 166, Operand.tmp 167], argTypes := #[27, 27] }, type := 27, pos := "law.go:64", after := #[{ on := 2, ground := Ground.data }, { on := 3, ground := Ground.data }, { on := 1, ground := Ground.chain }, { on := 1, ground := Ground.guard }], guard := some (1, true) }) rfl (fun K hK => ?_) AllReadyH.nil)
  rw [if_pos (by rfl)]
  go_simp
  go_at_call 27
  refine (unionV (k : Nat) (k : Nat) vL1.out vL2.out hn5 hk3 (by rw [← EL1.out, ← EL2.out]; exact EL9.out) ZL1.out ZL2.out ZL9.out _ _ _ _ _ (Ha.out.grown hdr) (Hb.out.grown hdr)).mono ?_
  rintro e wc4 ⟨xr23, yr23, rfl, hrr23, gc4⟩
  have hgr4 := World.grownBy.trans hdr gc4
  go_wp2_with fail
  refine hK.out _ _ (HS.out _ hgr4) (fun hHeld => ?_)
  clear hK K
  try simp only [Act.put, List.setIfInBounds_toArray, List.set_cons_zero, List.set_cons_succ]
  refine wpAnyH_ready (rs := [7]) (by kernel_rfl) (by simp) ?_
  refine (AllReadyH.cons (o := { dst := some 171, op := Op.call { callee := Callee.value (Operand.func 28), args := #[Operand.tmp 169, Operand.tmp 170], argTypes := #[27, 27] }, type := 27, pos := "law.go:64", after := #[{ on := 5, ground := Ground.data }, { on := 6, ground := Ground.data }, { on := 4, ground := Ground.chain }, { on := 1, ground := Ground.guard }], guard := some (1, true) }) rfl (fun K hK => ?_) AllReadyH.nil)
  rw [if_pos (by rfl)]
  go_simp
  go_at_call 28
  refine (runionV (k : Nat) (k : Nat) vL1.out vL2.out hn5 hk3 (by rw [← EL1.out, ← EL2.out]; exact EL9.out) ZL1.out ZL2.out ZL9.out _ _ _ _ _ (Ha.out.grown hgr4) (Hb.out.grown hgr4)).mono ?_
  rintro e wc7 ⟨xr24, yr24, rfl, hrr24, gc7⟩
  have hgr7 := World.grownBy.trans hgr4 gc7
  go_wp2_with fail
  refine hK.out _ _ (HS.out _ hgr7) (fun hHeld => ?_)
  clear hK K
  try simp only [Act.put, List.setIfInBounds_toArray, List.set_cons_zero, List.set_cons_succ]
  refine wpAnyH_ready (rs := [8]) (by kernel_rfl) (by simp) ?_
  refine (AllReadyH.cons (o := { dst := some 172, op := Op.call { callee := Callee.value (Operand.func 20), args := #[Operand.tmp 168, Operand.tmp 171], argTypes := #[27, 27] }, type := 4, pos := "law.go:64", after := #[{ on := 4, ground := Ground.data }, { on := 7, ground := Ground.data }, { on := 7, ground := Ground.chain }, { on := 1, ground := Ground.guard }], guard := some (1, true) }) rfl (fun K hK => ?_) AllReadyH.nil)
  rw [if_pos (by rfl)]
  go_simp
  go_at_call 20
  refine (requalV (k := k) (Q := true) (k : Nat) (k : Nat) vL9.out hn5 hk3 (eqQ _ (rfl : L9 = L9)) ZL9.out ZL9.out _ _ _ _ _ (hrr23.grown gc7) hrr24).mono ?_
  rintro e wc8 ⟨rfl, gc8⟩
  have hgr8 := World.grownBy.trans hgr7 gc8
  go_wp2_with fail
  refine hK.out _ _ (HS.out _ hgr8) (fun hHeld => ?_)
  clear hK K
  try simp only [Act.put, List.setIfInBounds_toArray, List.set_cons_zero, List.set_cons_succ]
  refine wpAnyH_take (i := 9) (oi := { dst := some 173, op := Op.pick (Operand.tmp 165) (Operand.tmp 172) (Operand.const (Value.bool false)), type := 4, pos := "law.go:64", after := #[{ on := 1, ground := Ground.data }, { on := 8, ground := Ground.data }], guard := none }) (v := ?_) rfl (by kernel_rfl) (by kernel_rfl) (by kernel_rfl) (fun _ _ _ h => h) (Or.inl ⟨by rfl, ?_⟩) (by assumption) ?_
  rotate_left 1
  · (intro W hSW; (try dsimp only at hSW); first | (go_simp; done) | (go_simp; with_reducible rfl))
  try simp only [Act.put, List.setIfInBounds_toArray, List.set_cons_zero, List.set_cons_succ]
  refine wpAnyH_take (i := 10) (oi := { dst := some 174, op := Op.move (Operand.tmp 173), type := 4, pos := "law.go:64", after := #[{ on := 9, ground := Ground.data }, { on := 8, ground := Ground.chain }], guard := none }) (v := ?_) rfl (by kernel_rfl) (by kernel_rfl) (by kernel_rfl) (fun _ _ _ h => h) (Or.inl ⟨by rfl, ?_⟩) (by assumption) ?_
  rotate_left 1
  · (intro W hSW; (try dsimp only at hSW); first | (go_simp; done) | (go_simp; with_reducible rfl))
  try simp only [Act.put, List.setIfInBounds_toArray, List.set_cons_zero, List.set_cons_succ]
  refine wpAnyH_take (i := 11) (oi := { dst := some 175, op := Op.load 27 (Operand.tmp 14), type := 27, pos := "law.go:64", after := #[{ on := 10, ground := Ground.guard }], guard := some (10, true) }) (v := ?_) rfl (by kernel_rfl) (by kernel_rfl) (by kernel_rfl) (fun _ _ _ h => h) (Or.inl ⟨by rfl, ?_⟩) (by assumption) ?_
  rotate_left 1
  · (intro W hSW; (try dsimp only at hSW); first | (go_simp; done) | (go_simp; with_reducible rfl))
  try simp only [Act.put, List.setIfInBounds_toArray, List.set_cons_zero, List.set_cons_succ]
  refine wpAnyH_take (i := 12) (oi := { dst := some 176, op := Op.load 27 (Operand.tmp 15), type := 27, pos := "law.go:64", after := #[{ on := 10, ground := Ground.guard }], guard := some (10, true) }) (v := ?_) rfl (by kernel_rfl) (by kernel_rfl) (by kernel_rfl) (fun _ _ _ h => h) (Or.inl ⟨by rfl, ?_⟩) (by assumption) ?_
  rotate_left 1
  · (intro W hSW; (try dsimp only at hSW); first | (go_simp; done) | (go_simp; with_reducible rfl))
  try simp only [Act.put, List.setIfInBounds_toArray, List.set_cons_zero, List.set_cons_succ]
  refine wpAnyH_take (i := 14) (oi := { dst := some 178, op := Op.load 27 (Operand.tmp 14), type := 27, pos := "law.go:64", after := #[{ on := 10, ground := Ground.guard }], guard := some (10, true) }) (v := ?_) rfl (by kernel_rfl) (by kernel_rfl) (by kernel_rfl) (fun _ _ _ h => h) (Or.inl ⟨by rfl, ?_⟩) (by assumption) ?_
  rotate_left 1
  · (intro W hSW; (try dsimp only at hSW); first | (go_simp; done) | (go_simp; with_reducible rfl))
  try simp only [Act.put, List.setIfInBounds_toArray, List.set_cons_zero, List.set_cons_succ]
  refine wpAnyH_take (i := 15) (oi := { dst := some 179, op := Op.load 27 (Operand.tmp 15), type := 27, pos := "law.go:64", after := #[{ on := 10, ground := Ground.guard }], guard := some (10, true) }) (v := ?_) rfl (by kernel_rfl) (by kernel_rfl) (by kernel_rfl) (fun _ _ _ h => h) (Or.inl ⟨by rfl, ?_⟩) (by assumption) ?_
  rotate_left 1
  · (intro W hSW; (try dsimp only at hSW); first | (go_simp; done) | (go_simp; with_reducible rfl))
  try simp only [Act.put, List.setIfInBounds_toArray, List.set_cons_zero, List.set_cons_succ]
  refine wpAnyH_ready (rs := [13]) (by kernel_rfl) (by simp) ?_
  refine (AllReadyH.cons (o := { dst := some 177, op := Op.call { callee := Callee.value (Operand.func 29), args := #[Operand.tmp 175, Operand.tmp 176], argTypes := #[27, 27] }, type := 27, pos := "law.go:64", after := #[{ on := 11, ground := Ground.data }, { on := 12, ground := Ground.data }, { on := 10, ground := Ground.chain }, { on := 10, ground := Ground.guard }], guard := some (10, true) }) rfl (fun K hK => ?_) AllReadyH.nil)
  rw [if_pos (by rfl)]
  go_simp
  go_at_call 29
  refine (interV (k : Nat) (k : Nat) vL1.out vL2.out hn5 hk3 (by rw [← EL1.out, ← EL2.out]; exact EL10.out) ZL1.out ZL2.out ZL10.out _ _ _ _ _ (Ha.out.grown hgr8) (Hb.out.grown hgr8)).mono ?_
  rintro e wc13 ⟨xr26, yr26, rfl, hrr26, gc13⟩
  have hgr13 := World.grownBy.trans hgr8 gc13
  go_wp2_with fail
  refine hK.out _ _ (HS.out _ hgr13) (fun hHeld => ?_)
  clear hK K
  try simp only [Act.put, List.setIfInBounds_toArray, List.set_cons_zero, List.set_cons_succ]
  refine wpAnyH_ready (rs := [16]) (by kernel_rfl) (by simp) ?_
  refine (AllReadyH.cons (o := { dst := some 180, op := Op.call { callee := Callee.value (Operand.func 30), args := #[Operand.tmp 178, Operand.tmp 179], argTypes := #[27, 27] }, type := 27, pos := "law.go:64", after := #[{ on := 14, ground := Ground.data }, { on := 15, ground := Ground.data }, { on := 13, ground := Ground.chain }, { on := 10, ground := Ground.guard }], guard := some (10, true) }) rfl (fun K hK => ?_) AllReadyH.nil)
  rw [if_pos (by rfl)]
  go_simp
  go_at_call 30
  refine (rinterV (k : Nat) (k : Nat) vL1.out vL2.out hn5 hk3 (by rw [← EL1.out, ← EL2.out]; exact EL10.out) ZL1.out ZL2.out ZL10.out _ _ _ _ _ (Ha.out.grown hgr13) (Hb.out.grown hgr13)).mono ?_
  rintro e wc16 ⟨xr27, yr27, rfl, hrr27, gc16⟩
  have hgr16 := World.grownBy.trans hgr13 gc16
  go_wp2_with fail
  refine hK.out _ _ (HS.out _ hgr16) (fun hHeld => ?_)
  clear hK K
  try simp only [Act.put, List.setIfInBounds_toArray, List.set_cons_zero, List.set_cons_succ]
  refine wpAnyH_ready (rs := [17]) (by kernel_rfl) (by simp) ?_
  refine (AllReadyH.cons (o := { dst := some 181, op := Op.call { callee := Callee.value (Operand.func 20), args := #[Operand.tmp 177, Operand.tmp 180], argTypes := #[27, 27] }, type := 4, pos := "law.go:64", after := #[{ on := 13, ground := Ground.data }, { on := 16, ground := Ground.data }, { on := 16, ground := Ground.chain }, { on := 10, ground := Ground.guard }], guard := some (10, true) }) rfl (fun K hK => ?_) AllReadyH.nil)
  rw [if_pos (by rfl)]
  go_simp
  go_at_call 20
  refine (requalV (k := k) (Q := true) (k : Nat) (k : Nat) vL10.out hn5 hk3 (eqQ _ (rfl : L10 = L10)) ZL10.out ZL10.out _ _ _ _ _ (hrr26.grown gc16) hrr27).mono ?_
  rintro e wc17 ⟨rfl, gc17⟩
  have hgr17 := World.grownBy.trans hgr16 gc17
  go_wp2_with fail
  refine hK.out _ _ (HS.out _ hgr17) (fun hHeld => ?_)
  clear hK K
  try simp only [Act.put, List.setIfInBounds_toArray, List.set_cons_zero, List.set_cons_succ]
  refine wpAnyH_take (i := 18) (oi := { dst := some 182, op := Op.pick (Operand.tmp 174) (Operand.tmp 181) (Operand.const (Value.bool false)), type := 4, pos := "law.go:64", after := #[{ on := 10, ground := Ground.data }, { on := 17, ground := Ground.data }], guard := none }) (v := ?_) rfl (by kernel_rfl) (by kernel_rfl) (by kernel_rfl) (fun _ _ _ h => h) (Or.inl ⟨by rfl, ?_⟩) (by assumption) ?_
  rotate_left 1
  · (intro W hSW; (try dsimp only at hSW); first | (go_simp; done) | (go_simp; with_reducible rfl))
  try simp only [Act.put, List.setIfInBounds_toArray, List.set_cons_zero, List.set_cons_succ]
  refine wpAnyH_take (i := 19) (oi := { dst := some 183, op := Op.move (Operand.tmp 182), type := 4, pos := "law.go:64", after := #[{ on := 18, ground := Ground.data }, { on := 17, ground := Ground.chain }], guard := none }) (v := ?_) rfl (by kernel_rfl) (by kernel_rfl) (by kernel_rfl) (fun _ _ _ h => h) (Or.inl ⟨by rfl, ?_⟩) (by assumption) ?_
  rotate_left 1
  · (intro W hSW; (try dsimp only at hSW); first | (go_simp; done) | (go_simp; with_reducible rfl))
  try simp only [Act.put, List.setIfInBounds_toArray, List.set_cons_zero, List.set_cons_succ]
  refine wpAnyH_take (i := 20) (oi := { dst := some 184, op := Op.load 27 (Operand.tmp 14), type := 27, pos := "law.go:64", after := #[{ on := 19, ground := Ground.guard }], guard := some (19, true) }) (v := ?_) rfl (by kernel_rfl) (by kernel_rfl) (by kernel_rfl) (fun _ _ _ h => h) (Or.inl ⟨by rfl, ?_⟩) (by assumption) ?_
  rotate_left 1
  · (intro W hSW; (try dsimp only at hSW); first | (go_simp; done) | (go_simp; with_reducible rfl))
  try simp only [Act.put, List.setIfInBounds_toArray, List.set_cons_zero, List.set_cons_succ]
  refine wpAnyH_take (i := 21) (oi := { dst := some 185, op := Op.load 27 (Operand.tmp 15), type := 27, pos := "law.go:64", after := #[{ on := 19, ground := Ground.guard }], guard := some (19, true) }) (v := ?_) rfl (by kernel_rfl) (by kernel_rfl) (by kernel_rfl) (fun _ _ _ h => h) (Or.inl ⟨by rfl, ?_⟩) (by assumption) ?_
  rotate_left 1
  · (intro W hSW; (try dsimp only at hSW); first | (go_simp; done) | (go_simp; with_reducible rfl))
  try simp only [Act.put, List.setIfInBounds_toArray, List.set_cons_zero, List.set_cons_succ]
  refine wpAnyH_take (i := 23) (oi := { dst := some 187, op := Op.load 27 (Operand.tmp 14), type := 27, pos := "law.go:64", after := #[{ on := 19, ground := Ground.guard }], guard := some (19, true) }) (v := ?_) rfl (by kernel_rfl) (by kernel_rfl) (by kernel_rfl) (fun _ _ _ h => h) (Or.inl ⟨by rfl, ?_⟩) (by assumption) ?_
  rotate_left 1
  · (intro W hSW; (try dsimp only at hSW); first | (go_simp; done) | (go_simp; with_reducible rfl))
  try simp only [Act.put, List.setIfInBounds_toArray, List.set_cons_zero, List.set_cons_succ]
  refine wpAnyH_take (i := 24) (oi := { dst := some 188, op := Op.load 27 (Operand.tmp 15), type := 27, pos := "law.go:64", after := #[{ on := 19, ground := Ground.guard }], guard := some (19, true) }) (v := ?_) rfl (by kernel_rfl) (by kernel_rfl) (by kernel_rfl) (fun _ _ _ h => h) (Or.inl ⟨by rfl, ?_⟩) (by assumption) ?_
  rotate_left 1
  · (intro W hSW; (try dsimp only at hSW); first | (go_simp; done) | (go_simp; with_reducible rfl))
  try simp only [Act.put, List.setIfInBounds_toArray, List.set_cons_zero, List.set_cons_succ]
  refine wpAnyH_ready (rs := [22]) (by kernel_rfl) (by simp) ?_
  refine (AllReadyH.cons (o := { dst := some 186, op := Op.call { callee := Callee.value (Operand.func 31), args := #[Operand.tmp 184, Operand.tmp 185], argTypes := #[27, 27] }, type := 27, pos := "law.go:64", after := #[{ on := 20, ground := Ground.data }, { on := 21, ground := Ground.data }, { on := 19, ground := Ground.chain }, { on := 19, ground := Ground.guard }], guard := some (19, true) }) rfl (fun K hK => ?_) AllReadyH.nil)
  rw [if_pos (by rfl)]
  go_simp
  go_at_call 31
  refine (diffV (k : Nat) (k : Nat) vL1.out vL2.out hn5 hk3 (by rw [← EL1.out, ← EL2.out]; exact EL11.out) ZL1.out ZL2.out ZL11.out _ _ _ _ _ (Ha.out.grown hgr17) (Hb.out.grown hgr17)).mono ?_
  rintro e wc22 ⟨xr29, yr29, rfl, hrr29, gc22⟩
  have hgr22 := World.grownBy.trans hgr17 gc22
  go_wp2_with fail
  refine hK.out _ _ (HS.out _ hgr22) (fun hHeld => ?_)
  clear hK K
  try simp only [Act.put, List.setIfInBounds_toArray, List.set_cons_zero, List.set_cons_succ]
  refine wpAnyH_ready (rs := [25]) (by kernel_rfl) (by simp) ?_
  refine (AllReadyH.cons (o := { dst := some 189, op := Op.call { callee := Callee.value (Operand.func 32), args := #[Operand.tmp 187, Operand.tmp 188], argTypes := #[27, 27] }, type := 27, pos := "law.go:64", after := #[{ on := 23, ground := Ground.data }, { on := 24, ground := Ground.data }, { on := 22, ground := Ground.chain }, { on := 19, ground := Ground.guard }], guard := some (19, true) }) rfl (fun K hK => ?_) AllReadyH.nil)
  rw [if_pos (by rfl)]
  go_simp
  go_at_call 32
  refine (rdiffV (k : Nat) (k : Nat) vL1.out vL2.out hn5 hk3 (by rw [← EL1.out, ← EL2.out]; exact EL11.out) ZL1.out ZL2.out ZL11.out _ _ _ _ _ (Ha.out.grown hgr22) (Hb.out.grown hgr22)).mono ?_
  rintro e wc25 ⟨xr30, yr30, rfl, hrr30, gc25⟩
  have hgr25 := World.grownBy.trans hgr22 gc25
  go_wp2_with fail
  refine hK.out _ _ (HS.out _ hgr25) (fun hHeld => ?_)
  clear hK K
  try simp only [Act.put, List.setIfInBounds_toArray, List.set_cons_zero, List.set_cons_succ]
  refine wpAnyH_ready (rs := [26]) (by kernel_rfl) (by simp) ?_
  refine (AllReadyH.cons (o := { dst := some 190, op := Op.call { callee := Callee.value (Operand.func 20), args := #[Operand.tmp 186, Operand.tmp 189], argTypes := #[27, 27] }, type := 4, pos := "law.go:64", after := #[{ on := 22, ground := Ground.data }, { on := 25, ground := Ground.data }, { on := 25, ground := Ground.chain }, { on := 19, ground := Ground.guard }], guard := some (19, true) }) rfl (fun K hK => ?_) AllReadyH.nil)
  rw [if_pos (by rfl)]
  go_simp
  go_at_call 20
  refine (requalV (k := k) (Q := true) (k : Nat) (k : Nat) vL11.out hn5 hk3 (eqQ _ (rfl : L11 = L11)) ZL11.out ZL11.out _ _ _ _ _ (hrr29.grown gc25) hrr30).mono ?_
  rintro e wc26 ⟨rfl, gc26⟩
  have hgr26 := World.grownBy.trans hgr25 gc26
  go_wp2_with fail
  refine hK.out _ _ (HS.out _ hgr26) (fun hHeld => ?_)
  clear hK K
  try simp only [Act.put, List.setIfInBounds_toArray, List.set_cons_zero, List.set_cons_succ]
  refine wpAnyH_take (i := 27) (oi := { dst := some 191, op := Op.pick (Operand.tmp 183) (Operand.tmp 190) (Operand.const (Value.bool false)), type := 4, pos := "law.go:64", after := #[{ on := 19, ground := Ground.data }, { on := 26, ground := Ground.data }], guard := none }) (v := ?_) rfl (by kernel_rfl) (by kernel_rfl) (by kernel_rfl) (fun _ _ _ h => h) (Or.inl ⟨by rfl, ?_⟩) (by assumption) ?_
  rotate_left 1
  · (intro W hSW; (try dsimp only at hSW); first | (go_simp; done) | (go_simp; with_reducible rfl))
  try simp only [Act.put, List.setIfInBounds_toArray, List.set_cons_zero, List.set_cons_succ]
  refine wpAnyH_take (i := 28) (oi := { dst := some 192, op := Op.move (Operand.tmp 191), type := 4, pos := "law.go:64", after := #[{ on := 27, ground := Ground.data }, { on := 26, ground := Ground.chain }], guard := none }) (v := ?_) rfl (by kernel_rfl) (by kernel_rfl) (by kernel_rfl) (fun _ _ _ h => h) (Or.inl ⟨by rfl, ?_⟩) (by assumption) ?_
  rotate_left 1
  · (intro W hSW; (try dsimp only at hSW); first | (go_simp; done) | (go_simp; with_reducible rfl))
  try simp only [Act.put, List.setIfInBounds_toArray, List.set_cons_zero, List.set_cons_succ]
  refine wpAnyH_take (i := 29) (oi := { dst := some 193, op := Op.move (Operand.tmp 12), type := 3, pos := "law.go:64", after := #[{ on := 28, ground := Ground.guard }], guard := some (28, true) }) (v := ?_) rfl (by kernel_rfl) (by kernel_rfl) (by kernel_rfl) (fun _ _ _ h => h) (Or.inl ⟨by rfl, ?_⟩) (by assumption) ?_
  rotate_left 1
  · (intro W hSW; (try dsimp only at hSW); first | (go_simp; done) | (go_simp; with_reducible rfl))
  try simp only [Act.put, List.setIfInBounds_toArray, List.set_cons_zero, List.set_cons_succ]
  refine wpAnyH_take (i := 30) (oi := { dst := some 194, op := Op.load 27 (Operand.tmp 14), type := 27, pos := "law.go:64", after := #[{ on := 28, ground := Ground.guard }], guard := some (28, true) }) (v := ?_) rfl (by kernel_rfl) (by kernel_rfl) (by kernel_rfl) (fun _ _ _ h => h) (Or.inl ⟨by rfl, ?_⟩) (by assumption) ?_
  rotate_left 1
  · (intro W hSW; (try dsimp only at hSW); first | (go_simp; done) | (go_simp; with_reducible rfl))
  try simp only [Act.put, List.setIfInBounds_toArray, List.set_cons_zero, List.set_cons_succ]
  refine wpAnyH_take (i := 31) (oi := { dst := some 195, op := Op.load 27 (Operand.tmp 15), type := 27, pos := "law.go:64", after := #[{ on := 28, ground := Ground.guard }], guard := some (28, true) }) (v := ?_) rfl (by kernel_rfl) (by kernel_rfl) (by kernel_rfl) (fun _ _ _ h => h) (Or.inl ⟨by rfl, ?_⟩) (by assumption) ?_
  rotate_left 1
  · (intro W hSW; (try dsimp only at hSW); first | (go_simp; done) | (go_simp; with_reducible rfl))
  try simp only [Act.put, List.setIfInBounds_toArray, List.set_cons_zero, List.set_cons_succ]
  refine wpAnyH_take (i := 33) (oi := { dst := some 197, op := Op.move (Operand.tmp 12), type := 3, pos := "law.go:64", after := #[{ on := 28, ground := Ground.guard }], guard := some (28, true) }) (v := ?_) rfl (by kernel_rfl) (by kernel_rfl) (by kernel_rfl) (fun _ _ _ h => h) (Or.inl ⟨by rfl, ?_⟩) (by assumption) ?_
  rotate_left 1
  · (intro W hSW; (try dsimp only at hSW); first | (go_simp; done) | (go_simp; with_reducible rfl))
  try simp only [Act.put, List.setIfInBounds_toArray, List.set_cons_zero, List.set_cons_succ]
  refine wpAnyH_take (i := 34) (oi := { dst := some 198, op := Op.load 27 (Operand.tmp 14), type := 27, pos := "law.go:64", after := #[{ on := 28, ground := Ground.guard }], guard := some (28, true) }) (v := ?_) rfl (by kernel_rfl) (by kernel_rfl) (by kernel_rfl) (fun _ _ _ h => h) (Or.inl ⟨by rfl, ?_⟩) (by assumption) ?_
  rotate_left 1
  · (intro W hSW; (try dsimp only at hSW); first | (go_simp; done) | (go_simp; with_reducible rfl))
  try simp only [Act.put, List.setIfInBounds_toArray, List.set_cons_zero, List.set_cons_succ]
  refine wpAnyH_take (i := 35) (oi := { dst := some 199, op := Op.load 27 (Operand.tmp 15), type := 27, pos := "law.go:64", after := #[{ on := 28, ground := Ground.guard }], guard := some (28, true) }) (v := ?_) rfl (by kernel_rfl) (by kernel_rfl) (by kernel_rfl) (fun _ _ _ h => h) (Or.inl ⟨by rfl, ?_⟩) (by assumption) ?_
  rotate_left 1
  · (intro W hSW; (try dsimp only at hSW); first | (go_simp; done) | (go_simp; with_reducible rfl))
  try simp only [Act.put, List.setIfInBounds_toArray, List.set_cons_zero, List.set_cons_succ]
  refine wpAnyH_ready (rs := [32]) (by kernel_rfl) (by simp) ?_
  refine (AllReadyH.cons (o := { dst := some 196, op := Op.call { callee := Callee.value (Operand.func 33), args := #[Operand.tmp 193, Operand.tmp 194, Operand.tmp 195], argTypes := #[3, 27, 27] }, type := 27, pos := "law.go:64", after := #[{ on := 29, ground := Ground.data }, { on := 30, ground := Ground.data }, { on := 31, ground := Ground.data }, { on := 28, ground := Ground.chain }, { on := 28, ground := Ground.guard }], guard := some (28, true) }) rfl (fun K hK => ?_) AllReadyH.nil)
  rw [if_pos (by rfl)]
  go_simp
  go_at_call 33
  refine (overV (k := k) (j := k) vL1.out vL2.out hn1 hn5 hk3 hk1 hk3 (by rw [← EL1.out, ← EL2.out]; exact EL12.out) ZL1.out ZL2.out ZL12.out _ _ _ _ _ (Ha.out.grown hgr26) (Hb.out.grown hgr26)).mono ?_
  rintro e wc32 ⟨xr32, yr32, rfl, hrr32, gc32⟩
  have hgr32 := World.grownBy.trans hgr26 gc32
  go_wp2_with fail
  refine hK.out _ _ (HS.out _ hgr32) (fun hHeld => ?_)
  clear hK K
  try simp only [Act.put, List.setIfInBounds_toArray, List.set_cons_zero, List.set_cons_succ]
  refine wpAnyH_ready (rs := [36]) (by kernel_rfl) (by simp) ?_
  refine (AllReadyH.cons (o := { dst := some 200, op := Op.call { callee := Callee.value (Operand.func 34), args := #[Operand.tmp 197, Operand.tmp 198, Operand.tmp 199], argTypes := #[3, 27, 27] }, type := 27, pos := "law.go:64", after := #[{ on := 33, ground := Ground.data }, { on := 34, ground := Ground.data }, { on := 35, ground := Ground.data }, { on := 32, ground := Ground.chain }, { on := 28, ground := Ground.guard }], guard := some (28, true) }) rfl (fun K hK => ?_) AllReadyH.nil)
  rw [if_pos (by rfl)]
  go_simp
  go_at_call 34
  refine (roverV (k := k) (j := k) vL1.out vL2.out hn1 hn5 hk3 hk1 hk3 (by rw [← EL1.out, ← EL2.out]; exact EL12.out) ZL1.out ZL2.out ZL12.out _ _ _ _ _ (Ha.out.grown hgr32) (Hb.out.grown hgr32)).mono ?_
  rintro e wc36 ⟨xr33, yr33, rfl, hrr33, gc36⟩
  have hgr36 := World.grownBy.trans hgr32 gc36
  go_wp2_with fail
  refine hK.out _ _ (HS.out _ hgr36) (fun hHeld => ?_)
  clear hK K
  try simp only [Act.put, List.setIfInBounds_toArray, List.set_cons_zero, List.set_cons_succ]
  refine wpAnyH_ready (rs := [37]) (by kernel_rfl) (by simp) ?_
  refine (AllReadyH.cons (o := { dst := some 201, op := Op.call { callee := Callee.value (Operand.func 20), args := #[Operand.tmp 196, Operand.tmp 200], argTypes := #[27, 27] }, type := 4, pos := "law.go:64", after := #[{ on := 32, ground := Ground.data }, { on := 36, ground := Ground.data }, { on := 36, ground := Ground.chain }, { on := 28, ground := Ground.guard }], guard := some (28, true) }) rfl (fun K hK => ?_) AllReadyH.nil)
  rw [if_pos (by rfl)]
  go_simp
  go_at_call 20
  refine (requalV (k := k) (Q := true) (k : Nat) (k : Nat) vL12.out hn5 hk3 (eqQ _ (rfl : L12 = L12)) ZL12.out ZL12.out _ _ _ _ _ (hrr32.grown gc36) hrr33).mono ?_
  rintro e wc37 ⟨rfl, gc37⟩
  have hgr37 := World.grownBy.trans hgr36 gc37
  go_wp2_with fail
  refine hK.out _ _ (HS.out _ hgr37) (fun hHeld => ?_)
  clear hK K
  try simp only [Act.put, List.setIfInBounds_toArray, List.set_cons_zero, List.set_cons_succ]
  refine wpAnyH_take (i := 38) (oi := { dst := some 202, op := Op.pick (Operand.tmp 192) (Operand.tmp 201) (Operand.const (Value.bool false)), type := 4, pos := "law.go:64", after := #[{ on := 28, ground := Ground.data }, { on := 37, ground := Ground.data }], guard := none }) (v := ?_) rfl (by kernel_rfl) (by kernel_rfl) (by kernel_rfl) (fun _ _ _ h => h) (Or.inl ⟨by rfl, ?_⟩) (by assumption) ?_
  rotate_left 1
  · (intro W hSW; (try dsimp only at hSW); first | (go_simp; done) | (go_simp; with_reducible rfl))
  try simp only [Act.put, List.setIfInBounds_toArray, List.set_cons_zero, List.set_cons_succ]
  refine wpAnyH_take (i := 39) (oi := { dst := some 203, op := Op.move (Operand.tmp 202), type := 4, pos := "law.go:64", after := #[{ on := 38, ground := Ground.data }, { on := 37, ground := Ground.chain }], guard := none }) (v := ?_) rfl (by kernel_rfl) (by kernel_rfl) (by kernel_rfl) (fun _ _ _ h => h) (Or.inl ⟨by rfl, ?_⟩) (by assumption) ?_
  rotate_left 1
  · (intro W hSW; (try dsimp only at hSW); first | (go_simp; done) | (go_simp; with_reducible rfl))
  try simp only [Act.put, List.setIfInBounds_toArray, List.set_cons_zero, List.set_cons_succ]
  refine wpAnyH_take (i := 40) (oi := { dst := some 204, op := Op.load 27 (Operand.tmp 14), type := 27, pos := "law.go:64", after := #[{ on := 39, ground := Ground.guard }], guard := some (39, true) }) (v := ?_) rfl (by kernel_rfl) (by kernel_rfl) (by kernel_rfl) (fun _ _ _ h => h) (Or.inl ⟨by rfl, ?_⟩) (by assumption) ?_
  rotate_left 1
  · (intro W hSW; (try dsimp only at hSW); first | (go_simp; done) | (go_simp; with_reducible rfl))
  try simp only [Act.put, List.setIfInBounds_toArray, List.set_cons_zero, List.set_cons_succ]
  refine wpAnyH_take (i := 41) (oi := { dst := some 205, op := Op.load 27 (Operand.tmp 15), type := 27, pos := "law.go:64", after := #[{ on := 39, ground := Ground.guard }], guard := some (39, true) }) (v := ?_) rfl (by kernel_rfl) (by kernel_rfl) (by kernel_rfl) (fun _ _ _ h => h) (Or.inl ⟨by rfl, ?_⟩) (by assumption) ?_
  rotate_left 1
  · (intro W hSW; (try dsimp only at hSW); first | (go_simp; done) | (go_simp; with_reducible rfl))
  try simp only [Act.put, List.setIfInBounds_toArray, List.set_cons_zero, List.set_cons_succ]
  refine wpAnyH_take (i := 43) (oi := { dst := some 207, op := Op.load 27 (Operand.tmp 14), type := 27, pos := "law.go:64", after := #[{ on := 39, ground := Ground.guard }], guard := some (39, true) }) (v := ?_) rfl (by kernel_rfl) (by kernel_rfl) (by kernel_rfl) (fun _ _ _ h => h) (Or.inl ⟨by rfl, ?_⟩) (by assumption) ?_
  rotate_left 1
  · (intro W hSW; (try dsimp only at hSW); first | (go_simp; done) | (go_simp; with_reducible rfl))
  try simp only [Act.put, List.setIfInBounds_toArray, List.set_cons_zero, List.set_cons_succ]
  refine wpAnyH_take (i := 44) (oi := { dst := some 208, op := Op.load 27 (Operand.tmp 15), type := 27, pos := "law.go:64", after := #[{ on := 39, ground := Ground.guard }], guard := some (39, true) }) (v := ?_) rfl (by kernel_rfl) (by kernel_rfl) (by kernel_rfl) (fun _ _ _ h => h) (Or.inl ⟨by rfl, ?_⟩) (by assumption) ?_
  rotate_left 1
  · (intro W hSW; (try dsimp only at hSW); first | (go_simp; done) | (go_simp; with_reducible rfl))
  try simp only [Act.put, List.setIfInBounds_toArray, List.set_cons_zero, List.set_cons_succ]
  refine wpAnyH_ready (rs := [42]) (by kernel_rfl) (by simp) ?_
  refine (AllReadyH.cons (o := { dst := some 206, op := Op.call { callee := Callee.value (Operand.func 35), args := #[Operand.tmp 204, Operand.tmp 205], argTypes := #[27, 27] }, type := 4, pos := "law.go:64", after := #[{ on := 40, ground := Ground.data }, { on := 41, ground := Ground.data }, { on := 39, ground := Ground.chain }, { on := 39, ground := Ground.guard }], guard := some (39, true) }) rfl (fun K hK => ?_) AllReadyH.nil)
  rw [if_pos (by rfl)]
  go_simp
  go_at_call 35
  refine (inV (k := k) (Q := QI) (k : Nat) (k : Nat) vL1.out vL2.out hn5 hk3 Q35.out ZL1.out ZL2.out _ _ _ _ _ (Ha.out.grown hgr37) (Hb.out.grown hgr37)).mono ?_
  rintro e wc42 ⟨rfl, gc42⟩
  have hgr42 := World.grownBy.trans hgr37 gc42
  go_wp2_with fail
  refine hK.out _ _ (HS.out _ hgr42) (fun hHeld => ?_)
  clear hK K
  try simp only [Act.put, List.setIfInBounds_toArray, List.set_cons_zero, List.set_cons_succ]
  refine wpAnyH_ready (rs := [45]) (by kernel_rfl) (by simp) ?_
  refine (AllReadyH.cons (o := { dst := some 209, op := Op.call { callee := Callee.value (Operand.func 36), args := #[Operand.tmp 207, Operand.tmp 208], argTypes := #[27, 27] }, type := 4, pos := "law.go:64", after := #[{ on := 43, ground := Ground.data }, { on := 44, ground := Ground.data }, { on := 42, ground := Ground.chain }, { on := 39, ground := Ground.guard }], guard := some (39, true) }) rfl (fun K hK => ?_) AllReadyH.nil)
  rw [if_pos (by rfl)]
  go_simp
  go_at_call 36
  refine (rinV (k := k) (Q := QI) (k : Nat) (k : Nat) vL1.out vL2.out hn5 hk3 Q36.out ZL1.out ZL2.out _ _ _ _ _ (Ha.out.grown hgr42) (Hb.out.grown hgr42)).mono ?_
  rintro e wc45 ⟨rfl, gc45⟩
  have hgr45 := World.grownBy.trans hgr42 gc45
  go_wp2_with fail
  refine hK.out _ _ (HS.out _ hgr45) (fun hHeld => ?_)
  clear hK K
  try simp only [Act.put, List.setIfInBounds_toArray, List.set_cons_zero, List.set_cons_succ]
  refine wpAnyH_take (i := 46) (oi := { dst := some 210, op := Op.binOp BinOp.eql 4 (Operand.tmp 206) (Operand.tmp 209) 4, type := 4, pos := "law.go:64", after := #[{ on := 42, ground := Ground.data }, { on := 45, ground := Ground.data }, { on := 39, ground := Ground.guard }], guard := some (39, true) }) (v := ?_) rfl (by kernel_rfl) (by kernel_rfl) (by kernel_rfl) (fun _ _ _ h => h) (Or.inl ⟨by rfl, ?_⟩) (by assumption) ?_
  rotate_left 1
  · (intro W hSW; (try dsimp only at hSW); first | (go_simp; done) | (go_simp; with_reducible rfl))
  try simp only [Act.put, List.setIfInBounds_toArray, List.set_cons_zero, List.set_cons_succ]
  refine wpAnyH_take (i := 47) (oi := { dst := some 211, op := Op.pick (Operand.tmp 203) (Operand.tmp 210) (Operand.const (Value.bool false)), type := 4, pos := "law.go:64", after := #[{ on := 39, ground := Ground.data }, { on := 46, ground := Ground.data }], guard := none }) (v := ?_) rfl (by kernel_rfl) (by kernel_rfl) (by kernel_rfl) (fun _ _ _ h => h) (Or.inl ⟨by rfl, ?_⟩) (by assumption) ?_
  rotate_left 1
  · (intro W hSW; (try dsimp only at hSW); first | (go_simp; done) | (go_simp; with_reducible rfl))
  try simp only [Act.put, List.setIfInBounds_toArray, List.set_cons_zero, List.set_cons_succ]
  refine wpAnyH_take (i := 48) (oi := { dst := some 10, op := Op.assign (Operand.tmp 211), type := 4, pos := "law.go:64", after := #[{ on := 47, ground := Ground.data }, { on := 45, ground := Ground.chain }, { on := 0, ground := Ground.phase }, { on := 1, ground := Ground.phase }, { on := 2, ground := Ground.phase }, { on := 3, ground := Ground.phase }, { on := 4, ground := Ground.phase }, { on := 5, ground := Ground.phase }, { on := 6, ground := Ground.phase }, { on := 7, ground := Ground.phase }, { on := 8, ground := Ground.phase }, { on := 9, ground := Ground.phase }, { on := 10, ground := Ground.phase }, { on := 11, ground := Ground.phase }, { on := 12, ground := Ground.phase }, { on := 13, ground := Ground.phase }, { on := 14, ground := Ground.phase }, { on := 15, ground := Ground.phase }, { on := 16, ground := Ground.phase }, { on := 17, ground := Ground.phase }, { on := 18, ground := Ground.phase }, { on := 19, ground := Ground.phase }, { on := 20, ground := Ground.phase }, { on := 21, ground := Ground.phase }, { on := 22, ground := Ground.phase }, { on := 23, ground := Ground.phase }, { on := 24, ground := Ground.phase }, { on := 25, ground := Ground.phase }, { on := 26, ground := Ground.phase }, { on := 27, ground := Ground.phase }, { on := 28, ground := Ground.phase }, { on := 29, ground := Ground.phase }, { on := 30, ground := Ground.phase }, { on := 31, ground := Ground.phase }, { on := 32, ground := Ground.phase }, { on := 33, ground := Ground.phase }, { on := 34, ground := Ground.phase }, { on := 35, ground := Ground.phase }, { on := 36, ground := Ground.phase }, { on := 37, ground := Ground.phase }, { on := 38, ground := Ground.phase }, { on := 39, ground := Ground.phase }, { on := 40, ground := Ground.phase }, { on := 41, ground := Ground.phase }, { on := 42, ground := Ground.phase }, { on := 43, ground := Ground.phase }, { on := 44, ground := Ground.phase }, { on := 45, ground := Ground.phase }, { on := 46, ground := Ground.phase }, { on := 47, ground := Ground.phase }], guard := none }) (v := ?_) rfl (by kernel_rfl) (by kernel_rfl) (by kernel_rfl) (fun _ _ _ h => h) (Or.inl ⟨by rfl, ?_⟩) (by assumption) ?_
  rotate_left 1
  · (intro W hSW; (try dsimp only at hSW); first | (go_simp; done) | (go_simp; with_reducible rfl))
  try simp only [Act.put, List.setIfInBounds_toArray, List.set_cons_zero, List.set_cons_succ]
  refine wpAnyH_done (by kernel_rfl) ?_ _
  have hEND := hgr45
  clear hHeld
  have HE := Lib.hid (World.grownBy.trans HG.out hEND)
  clear hEND
  go_wp2_with fail
  go_ret
  exact ⟨rfl, HE.out⟩

set_option maxRecDepth 100000 in
set_option maxHeartbeats 20000000 in
theorem matches_long1 (N Ar : Nat) (A0 B0 C0 : List Nat) (aa ab ac : Option Addr) (ca cb cc : Nat) (z : Nat) (kr : Int) (Tr : List Int) (ar : Option Addr) (cr : Nat) (ko : Int) (Tw : List Int) (ao : Option Addr) (co : Nat) (m : Int) (W0 : World) (h : RawAt W0 N Ar A0 B0 C0 aa ab ac ca cb cc) (_hz : z < 256) (hir : IntsW W0 ar cr Tr) (_hlr : (Tr.length : Int) ≤ 9223372036854775807) (hio : IntsW W0 ao co Tw) (_hlo : (Tw.length : Int) ≤ 9223372036854775807) (_hm : -9223372036854775808 ≤ m ∧ m ≤ 9223372036854775807) (hlong : 300 < Tr.length ∧ Tw.length = Tw.length) :
    Calls Try.prog 3 #[.agg #[.int .u8 (N : Int), .int .u8 (Ar : Int), .slice aa A0.length ca, .slice ab B0.length cb, .slice ac C0.length cc], .int .u8 (z : Int), .agg #[.int .i64 kr, .slice ar Tr.length cr], .agg #[.int .i64 ko, .slice ao Tw.length co], .int .i64 m] W0 fun e w' => e = .returned (.bool true) ∧ W0.grownBy w' none := by
  obtain ⟨lr, hlr'⟩ : ∃ l, Tr.length = l := ⟨_, rfl⟩
  obtain ⟨lo, hlo'⟩ : ∃ l, Tw.length = l := ⟨_, rfl⟩
  rw [hlr', hlo'] at hlong ⊢
  clear hlr' hlo' _hlr _hlo _hm _hz
  obtain ⟨lA0, hlA0⟩ : ∃ l, A0.length = l := ⟨_, rfl⟩
  obtain ⟨lB0, hlB0⟩ : ∃ l, B0.length = l := ⟨_, rfl⟩
  obtain ⟨lC0, hlC0⟩ : ∃ l, C0.length = l := ⟨_, rfl⟩
  have ZA0 := Lib.hid hlA0; have ZB0 := Lib.hid hlB0; have ZC0 := Lib.hid hlC0
  rw [hlA0, hlB0, hlC0]
  clear hlA0 hlB0 hlC0
  have hg := ((World.grownBy_alloc W0 (.cells #[.int .u8 (N : Int), .int .u8 (Ar : Int), .slice aa lA0 ca, .slice ab lB0 cb, .slice ac lC0 cc] 24) none).trans (World.grownBy_alloc (W0.alloc (.cells #[.int .u8 (N : Int), .int .u8 (Ar : Int), .slice aa lA0 ca, .slice ab lB0 cb, .slice ac lC0 cc] 24)) (.cells #[.int .i64 kr, .slice ar lr cr] 27) none)).trans (World.grownBy_alloc ((W0.alloc (.cells #[.int .u8 (N : Int), .int .u8 (Ar : Int), .slice aa lA0 ca, .slice ab lB0 cb, .slice ac lC0 cc] 24)).alloc (.cells #[.int .i64 kr, .slice ar lr cr] 27)) (.cells #[.int .i64 ko, .slice ao lo co] 27) none)
  have hb0 : (((W0.alloc (.cells #[.int .u8 (N : Int), .int .u8 (Ar : Int), .slice aa lA0 ca, .slice ab lB0 cb, .slice ac lC0 cc] 24)).alloc (.cells #[.int .i64 kr, .slice ar lr cr] 27)).alloc (.cells #[.int .i64 ko, .slice ao lo co] 27)).cell? ⟨W0.heap.size, 0, none⟩ = some (.int .u8 (N : Int)) := by go_simp
  have hb1 : (((W0.alloc (.cells #[.int .u8 (N : Int), .int .u8 (Ar : Int), .slice aa lA0 ca, .slice ab lB0 cb, .slice ac lC0 cc] 24)).alloc (.cells #[.int .i64 kr, .slice ar lr cr] 27)).alloc (.cells #[.int .i64 ko, .slice ao lo co] 27)).cell? ⟨W0.heap.size, 1, none⟩ = some (.int .u8 (Ar : Int)) := by go_simp
  have hb2 : (((W0.alloc (.cells #[.int .u8 (N : Int), .int .u8 (Ar : Int), .slice aa lA0 ca, .slice ab lB0 cb, .slice ac lC0 cc] 24)).alloc (.cells #[.int .i64 kr, .slice ar lr cr] 27)).alloc (.cells #[.int .i64 ko, .slice ao lo co] 27)).cell? ⟨W0.heap.size, 2, none⟩ = some (.slice aa lA0 ca) := by go_simp
  have hb3 : (((W0.alloc (.cells #[.int .u8 (N : Int), .int .u8 (Ar : Int), .slice aa lA0 ca, .slice ab lB0 cb, .slice ac lC0 cc] 24)).alloc (.cells #[.int .i64 kr, .slice ar lr cr] 27)).alloc (.cells #[.int .i64 ko, .slice ao lo co] 27)).cell? ⟨W0.heap.size, 3, none⟩ = some (.slice ab lB0 cb) := by go_simp
  have hb4 : (((W0.alloc (.cells #[.int .u8 (N : Int), .int .u8 (Ar : Int), .slice aa lA0 ca, .slice ab lB0 cb, .slice ac lC0 cc] 24)).alloc (.cells #[.int .i64 kr, .slice ar lr cr] 27)).alloc (.cells #[.int .i64 ko, .slice ao lo co] 27)).cell? ⟨W0.heap.size, 4, none⟩ = some (.slice ac lC0 cc) := by go_simp
  have hr0 : (((W0.alloc (.cells #[.int .u8 (N : Int), .int .u8 (Ar : Int), .slice aa lA0 ca, .slice ab lB0 cb, .slice ac lC0 cc] 24)).alloc (.cells #[.int .i64 kr, .slice ar lr cr] 27)).alloc (.cells #[.int .i64 ko, .slice ao lo co] 27)).cell? ⟨W0.heap.size + 1, 0, none⟩ = some (.int .i64 kr) := by go_simp
  have hr1 : (((W0.alloc (.cells #[.int .u8 (N : Int), .int .u8 (Ar : Int), .slice aa lA0 ca, .slice ab lB0 cb, .slice ac lC0 cc] 24)).alloc (.cells #[.int .i64 kr, .slice ar lr cr] 27)).alloc (.cells #[.int .i64 ko, .slice ao lo co] 27)).cell? ⟨W0.heap.size + 1, 1, none⟩ = some (.slice ar lr cr) := by go_simp
  have hw0 : (((W0.alloc (.cells #[.int .u8 (N : Int), .int .u8 (Ar : Int), .slice aa lA0 ca, .slice ab lB0 cb, .slice ac lC0 cc] 24)).alloc (.cells #[.int .i64 kr, .slice ar lr cr] 27)).alloc (.cells #[.int .i64 ko, .slice ao lo co] 27)).cell? ⟨W0.heap.size + 2, 0, none⟩ = some (.int .i64 ko) := by go_simp
  have hw1 : (((W0.alloc (.cells #[.int .u8 (N : Int), .int .u8 (Ar : Int), .slice aa lA0 ca, .slice ab lB0 cb, .slice ac lC0 cc] 24)).alloc (.cells #[.int .i64 kr, .slice ar lr cr] 27)).alloc (.cells #[.int .i64 ko, .slice ao lo co] 27)).cell? ⟨W0.heap.size + 2, 1, none⟩ = some (.slice ao lo co) := by go_simp
  obtain ⟨V0, hV0⟩ : ∃ V, (((W0.alloc (.cells #[.int .u8 (N : Int), .int .u8 (Ar : Int), .slice aa lA0 ca, .slice ab lB0 cb, .slice ac lC0 cc] 24)).alloc (.cells #[.int .i64 kr, .slice ar lr cr] 27)).alloc (.cells #[.int .i64 ko, .slice ao lo co] 27)) = V := ⟨_, rfl⟩
  rw [hV0] at hg hb0 hb1 hb2 hb3 hb4 hr0 hr1 hw0 hw1
  have HG := Lib.hid hg
  have HRB := Lib.hid (And.intro hb0 (And.intro hb1 (And.intro hb2 (And.intro hb3 hb4))))
  have HR := Lib.hid (h.grown hg)
  have HBR := Lib.hid (And.intro hr0 hr1)
  have HBW := Lib.hid (And.intro hw0 hw1)
  have Hrr := Lib.hid (hir.grown hg)
  have Hrw := Lib.hid (hio.grown hg)
  clear hg hb0 hb1 hb2 hb3 hb4 hr0 hr1 hw0 hw1 h hir hio
  go_enter Try.func3, Try.ntmps3
  have qBR0 := HBR.out.1
  have qBR1 := HBR.out.2
  have qBW0 := HBW.out.1
  have qBW1 := HBW.out.2
  have qr0 := HRB.out.1
  have qr1 := HRB.out.2.1
  have qr2 := HRB.out.2.2.1
  have qr3 := HRB.out.2.2.2.1
  have qr4 := HRB.out.2.2.2.2
  go_upto_region 1 with fail
  clear qBR0 qBR1 qBW0 qBW1 qr0 qr1 qr2 qr3 qr4
  clear hV0
  have qBR0 := HBR.out.1
  have qBR1 := HBR.out.2
  have qBW0 := HBW.out.1
  have qBW1 := HBW.out.2
  have qr0 := HRB.out.1
  have qr1 := HRB.out.2.1
  have qr2 := HRB.out.2.2.1
  have qr3 := HRB.out.2.2.2.1
  have qr4 := HRB.out.2.2.2.2
  go_wp2_with fail
  clear qBR0 qBR1 qBW0 qBW1 qr0 qr1 qr2 qr3 qr4
  refine (head_calls _).mono ?_
  rintro e V1 ⟨rfl, g⟩
  replace Hrr := Lib.hid (Hrr.out.grown g)
  replace Hrw := Lib.hid (Hrw.out.grown g)
  replace HBR := Lib.hid (And.intro (World.grownBy.cell g HBR.out.1 (by simp)) (World.grownBy.cell g HBR.out.2 (by simp)))
  replace HBW := Lib.hid (And.intro (World.grownBy.cell g HBW.out.1 (by simp)) (World.grownBy.cell g HBW.out.2 (by simp)))
  replace HRB := Lib.hid (And.intro (World.grownBy.cell g HRB.out.1 (by simp)) (And.intro (World.grownBy.cell g HRB.out.2.1 (by simp)) (And.intro (World.grownBy.cell g HRB.out.2.2.1 (by simp)) (And.intro (World.grownBy.cell g HRB.out.2.2.2.1 (by simp)) (World.grownBy.cell g HRB.out.2.2.2.2 (by simp))))))
  replace HR := Lib.hid (HR.out.grown g)
  replace HG := Lib.hid (World.grownBy.trans HG.out g)
  clear g
  have h30 : decide ((300 : Int) < (lr : Int)) = true := decide_eq_true (by omega)
  have h32 : decide (300 < lr) = true := decide_eq_true (by omega)
  have qBR0 := HBR.out.1
  have qBR1 := HBR.out.2
  have qBW0 := HBW.out.1
  have qBW1 := HBW.out.2
  have qr0 := HRB.out.1
  have qr1 := HRB.out.2.1
  have qr2 := HRB.out.2.2.1
  have qr3 := HRB.out.2.2.2.1
  have qr4 := HRB.out.2.2.2.2
  go_wp2_with fail
  go_ret
  exact ⟨rfl, HG.out⟩

set_option maxRecDepth 100000 in
set_option maxHeartbeats 20000000 in
theorem matches_long2 (N Ar : Nat) (A0 B0 C0 : List Nat) (aa ab ac : Option Addr) (ca cb cc : Nat) (z : Nat) (kr : Int) (Tr : List Int) (ar : Option Addr) (cr : Nat) (ko : Int) (Tw : List Int) (ao : Option Addr) (co : Nat) (m : Int) (W0 : World) (h : RawAt W0 N Ar A0 B0 C0 aa ab ac ca cb cc) (_hz : z < 256) (hir : IntsW W0 ar cr Tr) (_hlr : (Tr.length : Int) ≤ 9223372036854775807) (hio : IntsW W0 ao co Tw) (_hlo : (Tw.length : Int) ≤ 9223372036854775807) (_hm : -9223372036854775808 ≤ m ∧ m ≤ 9223372036854775807) (hlong : Tr.length ≤ 300 ∧ 300 < Tw.length) :
    Calls Try.prog 3 #[.agg #[.int .u8 (N : Int), .int .u8 (Ar : Int), .slice aa A0.length ca, .slice ab B0.length cb, .slice ac C0.length cc], .int .u8 (z : Int), .agg #[.int .i64 kr, .slice ar Tr.length cr], .agg #[.int .i64 ko, .slice ao Tw.length co], .int .i64 m] W0 fun e w' => e = .returned (.bool true) ∧ W0.grownBy w' none := by
  obtain ⟨lr, hlr'⟩ : ∃ l, Tr.length = l := ⟨_, rfl⟩
  obtain ⟨lo, hlo'⟩ : ∃ l, Tw.length = l := ⟨_, rfl⟩
  rw [hlr', hlo'] at hlong ⊢
  clear hlr' hlo' _hlr _hlo _hm _hz
  obtain ⟨lA0, hlA0⟩ : ∃ l, A0.length = l := ⟨_, rfl⟩
  obtain ⟨lB0, hlB0⟩ : ∃ l, B0.length = l := ⟨_, rfl⟩
  obtain ⟨lC0, hlC0⟩ : ∃ l, C0.length = l := ⟨_, rfl⟩
  have ZA0 := Lib.hid hlA0; have ZB0 := Lib.hid hlB0; have ZC0 := Lib.hid hlC0
  rw [hlA0, hlB0, hlC0]
  clear hlA0 hlB0 hlC0
  have hg := ((World.grownBy_alloc W0 (.cells #[.int .u8 (N : Int), .int .u8 (Ar : Int), .slice aa lA0 ca, .slice ab lB0 cb, .slice ac lC0 cc] 24) none).trans (World.grownBy_alloc (W0.alloc (.cells #[.int .u8 (N : Int), .int .u8 (Ar : Int), .slice aa lA0 ca, .slice ab lB0 cb, .slice ac lC0 cc] 24)) (.cells #[.int .i64 kr, .slice ar lr cr] 27) none)).trans (World.grownBy_alloc ((W0.alloc (.cells #[.int .u8 (N : Int), .int .u8 (Ar : Int), .slice aa lA0 ca, .slice ab lB0 cb, .slice ac lC0 cc] 24)).alloc (.cells #[.int .i64 kr, .slice ar lr cr] 27)) (.cells #[.int .i64 ko, .slice ao lo co] 27) none)
  have hb0 : (((W0.alloc (.cells #[.int .u8 (N : Int), .int .u8 (Ar : Int), .slice aa lA0 ca, .slice ab lB0 cb, .slice ac lC0 cc] 24)).alloc (.cells #[.int .i64 kr, .slice ar lr cr] 27)).alloc (.cells #[.int .i64 ko, .slice ao lo co] 27)).cell? ⟨W0.heap.size, 0, none⟩ = some (.int .u8 (N : Int)) := by go_simp
  have hb1 : (((W0.alloc (.cells #[.int .u8 (N : Int), .int .u8 (Ar : Int), .slice aa lA0 ca, .slice ab lB0 cb, .slice ac lC0 cc] 24)).alloc (.cells #[.int .i64 kr, .slice ar lr cr] 27)).alloc (.cells #[.int .i64 ko, .slice ao lo co] 27)).cell? ⟨W0.heap.size, 1, none⟩ = some (.int .u8 (Ar : Int)) := by go_simp
  have hb2 : (((W0.alloc (.cells #[.int .u8 (N : Int), .int .u8 (Ar : Int), .slice aa lA0 ca, .slice ab lB0 cb, .slice ac lC0 cc] 24)).alloc (.cells #[.int .i64 kr, .slice ar lr cr] 27)).alloc (.cells #[.int .i64 ko, .slice ao lo co] 27)).cell? ⟨W0.heap.size, 2, none⟩ = some (.slice aa lA0 ca) := by go_simp
  have hb3 : (((W0.alloc (.cells #[.int .u8 (N : Int), .int .u8 (Ar : Int), .slice aa lA0 ca, .slice ab lB0 cb, .slice ac lC0 cc] 24)).alloc (.cells #[.int .i64 kr, .slice ar lr cr] 27)).alloc (.cells #[.int .i64 ko, .slice ao lo co] 27)).cell? ⟨W0.heap.size, 3, none⟩ = some (.slice ab lB0 cb) := by go_simp
  have hb4 : (((W0.alloc (.cells #[.int .u8 (N : Int), .int .u8 (Ar : Int), .slice aa lA0 ca, .slice ab lB0 cb, .slice ac lC0 cc] 24)).alloc (.cells #[.int .i64 kr, .slice ar lr cr] 27)).alloc (.cells #[.int .i64 ko, .slice ao lo co] 27)).cell? ⟨W0.heap.size, 4, none⟩ = some (.slice ac lC0 cc) := by go_simp
  have hr0 : (((W0.alloc (.cells #[.int .u8 (N : Int), .int .u8 (Ar : Int), .slice aa lA0 ca, .slice ab lB0 cb, .slice ac lC0 cc] 24)).alloc (.cells #[.int .i64 kr, .slice ar lr cr] 27)).alloc (.cells #[.int .i64 ko, .slice ao lo co] 27)).cell? ⟨W0.heap.size + 1, 0, none⟩ = some (.int .i64 kr) := by go_simp
  have hr1 : (((W0.alloc (.cells #[.int .u8 (N : Int), .int .u8 (Ar : Int), .slice aa lA0 ca, .slice ab lB0 cb, .slice ac lC0 cc] 24)).alloc (.cells #[.int .i64 kr, .slice ar lr cr] 27)).alloc (.cells #[.int .i64 ko, .slice ao lo co] 27)).cell? ⟨W0.heap.size + 1, 1, none⟩ = some (.slice ar lr cr) := by go_simp
  have hw0 : (((W0.alloc (.cells #[.int .u8 (N : Int), .int .u8 (Ar : Int), .slice aa lA0 ca, .slice ab lB0 cb, .slice ac lC0 cc] 24)).alloc (.cells #[.int .i64 kr, .slice ar lr cr] 27)).alloc (.cells #[.int .i64 ko, .slice ao lo co] 27)).cell? ⟨W0.heap.size + 2, 0, none⟩ = some (.int .i64 ko) := by go_simp
  have hw1 : (((W0.alloc (.cells #[.int .u8 (N : Int), .int .u8 (Ar : Int), .slice aa lA0 ca, .slice ab lB0 cb, .slice ac lC0 cc] 24)).alloc (.cells #[.int .i64 kr, .slice ar lr cr] 27)).alloc (.cells #[.int .i64 ko, .slice ao lo co] 27)).cell? ⟨W0.heap.size + 2, 1, none⟩ = some (.slice ao lo co) := by go_simp
  obtain ⟨V0, hV0⟩ : ∃ V, (((W0.alloc (.cells #[.int .u8 (N : Int), .int .u8 (Ar : Int), .slice aa lA0 ca, .slice ab lB0 cb, .slice ac lC0 cc] 24)).alloc (.cells #[.int .i64 kr, .slice ar lr cr] 27)).alloc (.cells #[.int .i64 ko, .slice ao lo co] 27)) = V := ⟨_, rfl⟩
  rw [hV0] at hg hb0 hb1 hb2 hb3 hb4 hr0 hr1 hw0 hw1
  have HG := Lib.hid hg
  have HRB := Lib.hid (And.intro hb0 (And.intro hb1 (And.intro hb2 (And.intro hb3 hb4))))
  have HR := Lib.hid (h.grown hg)
  have HBR := Lib.hid (And.intro hr0 hr1)
  have HBW := Lib.hid (And.intro hw0 hw1)
  have Hrr := Lib.hid (hir.grown hg)
  have Hrw := Lib.hid (hio.grown hg)
  clear hg hb0 hb1 hb2 hb3 hb4 hr0 hr1 hw0 hw1 h hir hio
  go_enter Try.func3, Try.ntmps3
  have qBR0 := HBR.out.1
  have qBR1 := HBR.out.2
  have qBW0 := HBW.out.1
  have qBW1 := HBW.out.2
  have qr0 := HRB.out.1
  have qr1 := HRB.out.2.1
  have qr2 := HRB.out.2.2.1
  have qr3 := HRB.out.2.2.2.1
  have qr4 := HRB.out.2.2.2.2
  go_upto_region 1 with fail
  clear qBR0 qBR1 qBW0 qBW1 qr0 qr1 qr2 qr3 qr4
  clear hV0
  have qBR0 := HBR.out.1
  have qBR1 := HBR.out.2
  have qBW0 := HBW.out.1
  have qBW1 := HBW.out.2
  have qr0 := HRB.out.1
  have qr1 := HRB.out.2.1
  have qr2 := HRB.out.2.2.1
  have qr3 := HRB.out.2.2.2.1
  have qr4 := HRB.out.2.2.2.2
  go_wp2_with fail
  clear qBR0 qBR1 qBW0 qBW1 qr0 qr1 qr2 qr3 qr4
  refine (head_calls _).mono ?_
  rintro e V1 ⟨rfl, g⟩
  replace Hrr := Lib.hid (Hrr.out.grown g)
  replace Hrw := Lib.hid (Hrw.out.grown g)
  replace HBR := Lib.hid (And.intro (World.grownBy.cell g HBR.out.1 (by simp)) (World.grownBy.cell g HBR.out.2 (by simp)))
  replace HBW := Lib.hid (And.intro (World.grownBy.cell g HBW.out.1 (by simp)) (World.grownBy.cell g HBW.out.2 (by simp)))
  replace HRB := Lib.hid (And.intro (World.grownBy.cell g HRB.out.1 (by simp)) (And.intro (World.grownBy.cell g HRB.out.2.1 (by simp)) (And.intro (World.grownBy.cell g HRB.out.2.2.1 (by simp)) (And.intro (World.grownBy.cell g HRB.out.2.2.2.1 (by simp)) (World.grownBy.cell g HRB.out.2.2.2.2 (by simp))))))
  replace HR := Lib.hid (HR.out.grown g)
  replace HG := Lib.hid (World.grownBy.trans HG.out g)
  clear g
  have h30 : decide ((300 : Int) < (lr : Int)) = false := decide_eq_false (by omega)
  have h32 : decide (300 < lr) = false := decide_eq_false (by omega)
  have h31 : decide ((300 : Int) < (lo : Int)) = true := decide_eq_true (by omega)
  have h33 : decide (300 < lo) = true := decide_eq_true (by omega)
  have qBR0 := HBR.out.1
  have qBR1 := HBR.out.2
  have qBW0 := HBW.out.1
  have qBW1 := HBW.out.2
  have qr0 := HRB.out.1
  have qr1 := HRB.out.2.1
  have qr2 := HRB.out.2.2.1
  have qr3 := HRB.out.2.2.2.1
  have qr4 := HRB.out.2.2.2.2
  go_wp2_with fail
  go_ret
  exact ⟨rfl, HG.out⟩

set_option maxRecDepth 100000 in
set_option maxHeartbeats 20000000 in
theorem matches_calls (N Ar : Nat) (A0 B0 C0 : List Nat) (aa ab ac : Option Addr) (ca cb cc : Nat) (z : Nat) (kr : Int) (Tr : List Int) (ar : Option Addr) (cr : Nat) (ko : Int) (Tw : List Int) (ao : Option Addr) (co : Nat) (m : Int) (W0 : World) (h : RawAt W0 N Ar A0 B0 C0 aa ab ac ca cb cc) (hz : z < 256) (hir : IntsW W0 ar cr Tr) (hlr : (Tr.length : Int) ≤ 9223372036854775807) (hio : IntsW W0 ao co Tw) (hlo : (Tw.length : Int) ≤ 9223372036854775807) (hm : -9223372036854775808 ≤ m ∧ m ≤ 9223372036854775807) :
    Calls Try.prog 3 #[.agg #[.int .u8 (N : Int), .int .u8 (Ar : Int), .slice aa A0.length ca, .slice ab B0.length cb, .slice ac C0.length cc], .int .u8 (z : Int), .agg #[.int .i64 kr, .slice ar Tr.length cr], .agg #[.int .i64 ko, .slice ao Tw.length co], .int .i64 m] W0 fun e w' => e = .returned (.bool true) ∧ W0.grownBy w' none := by
  by_cases h1 : 300 < Tr.length
  · exact matches_long1 N Ar A0 B0 C0 aa ab ac ca cb cc z kr Tr ar cr ko Tw ao co m W0 h hz hir hlr hio hlo hm ⟨h1, rfl⟩
  · by_cases h2 : 300 < Tw.length
    · exact matches_long2 N Ar A0 B0 C0 aa ab ac ca cb cc z kr Tr ar cr ko Tw ao co m W0 h hz hir hlr hio hlo hm ⟨by omega, h2⟩
    · exact matches_short N Ar A0 B0 C0 aa ab ac ca cb cc z kr Tr ar cr ko Tw ao co m W0 h hz hir hlr hio hlo hm (by omega) (by omega)
end Go.Proofs.Ytkoigonbncpbaaa
