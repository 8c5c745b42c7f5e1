/- RelationLattice: the law walked. -/
import Derived.Test.YtkoigonbncpbaaaM5
import Derived.Test.YtkoigonbncpbaaaC1
namespace Go.Proofs.Ytkoigonbncpbaaa
open Go.RowKit Go.Shelf

set_option maxRecDepth 100000 in
set_option maxHeartbeats 20000000 in
theorem lattice_calls (N Ar : Nat) (A0 B0 C0 : List Nat) (aa ab ac : Option Addr) (ca cb cc : Nat) (W0 : World) (h : RawAt W0 N Ar A0 B0 C0 aa ab ac ca cb cc) :
    Calls Try.prog 5 #[.agg #[.int .u8 (N : Int), .int .u8 (Ar : Int), .slice aa A0.length ca, .slice ab B0.length cb, .slice ac C0.length cc]] W0 fun e w' => e = .returned (.bool true) ∧ W0.grownBy w' none := by
  have hAr := h.hAr
  obtain ⟨n, hn⟩ : ∃ n, 1 + N % 5 = n := ⟨_, rfl⟩
  obtain ⟨k, hk⟩ : ∃ k, 1 + Ar % 3 = k := ⟨_, rfl⟩
  have hn1 : 1 ≤ n := by omega
  have hn5 : n ≤ 5 := by omega
  have hk1 : 1 ≤ k := by omega
  have hk3 : k ≤ 3 := by omega
  have hNN := Lib.hid hn; have hKK := Lib.hid hk
  clear hn hk hAr
  obtain ⟨L1, hL1⟩ : ∃ l : List Int, fromL n k A0 = l := ⟨_, rfl⟩
  have vL1 := Lib.hid (by rw [← hL1]; exact (VR.from n k A0 hn1) : VR n (k) L1)
  obtain ⟨lL1, hlL1⟩ : ∃ l, L1.length = l := ⟨_, rfl⟩
  have EL1 := Lib.hid hL1
  have ZL1 := Lib.hid hlL1
  clear hL1 hlL1
  obtain ⟨L2, hL2⟩ : ∃ l : List Int, fromL n k B0 = l := ⟨_, rfl⟩
  have vL2 := Lib.hid (by rw [← hL2]; exact (VR.from n k B0 hn1) : VR n (k) L2)
  obtain ⟨lL2, hlL2⟩ : ∃ l, L2.length = l := ⟨_, rfl⟩
  have EL2 := Lib.hid hL2
  have ZL2 := Lib.hid hlL2
  clear hL2 hlL2
  obtain ⟨L3, hL3⟩ : ∃ l : List Int, fromL n k C0 = l := ⟨_, rfl⟩
  have vL3 := Lib.hid (by rw [← hL3]; exact (VR.from n k C0 hn1) : VR n (k) L3)
  obtain ⟨lL3, hlL3⟩ : ∃ l, L3.length = l := ⟨_, rfl⟩
  have EL3 := Lib.hid hL3
  have ZL3 := Lib.hid hlL3
  clear hL3 hlL3
  obtain ⟨L4, hL4⟩ : ∃ l : List Int, fullL n k = l := ⟨_, rfl⟩
  have vL4 := Lib.hid (by rw [← hL4]; exact VR.full n k : VR n (k) L4)
  obtain ⟨lL4, hlL4⟩ : ∃ l, L4.length = l := ⟨_, rfl⟩
  have EL4 := Lib.hid hL4
  have ZL4 := Lib.hid hlL4
  clear hL4 hlL4
  obtain ⟨L5, hL5⟩ : ∃ l : List Int, unionL (fromL n k A0) (fromL n k B0) = l := ⟨_, rfl⟩
  have vL5 := Lib.hid (by rw [← hL5]; exact VR.union (by rw [EL1.out]; exact vL1.out) (by rw [EL2.out]; exact vL2.out) : VR n (k) L5)
  obtain ⟨lL5, hlL5⟩ : ∃ l, L5.length = l := ⟨_, rfl⟩
  have EL5 := Lib.hid hL5
  have ZL5 := Lib.hid hlL5
  clear hL5 hlL5
  obtain ⟨L6, hL6⟩ : ∃ l : List Int, interL (fromL n k A0) (fromL n k B0) = l := ⟨_, rfl⟩
  have vL6 := Lib.hid (by rw [← hL6]; exact VR.inter (by rw [EL1.out]; exact vL1.out) (by rw [EL2.out]; exact vL2.out) : VR n (k) L6)
  obtain ⟨lL6, hlL6⟩ : ∃ l, L6.length = l := ⟨_, rfl⟩
  have EL6 := Lib.hid hL6
  have ZL6 := Lib.hid hlL6
  clear hL6 hlL6
  obtain ⟨Q, hQ⟩ : ∃ Q, decide (∀ z ∈ L1, z ∈ L2) = Q := ⟨_, rfl⟩
  obtain ⟨L7, hL7⟩ : ∃ l : List Int, unionL (fromL n k B0) (fromL n k A0) = l := ⟨_, rfl⟩
  have vL7 := Lib.hid (by rw [← hL7]; exact VR.union (by rw [EL2.out]; exact vL2.out) (by rw [EL1.out]; exact vL1.out) : VR n (k) L7)
  obtain ⟨lL7, hlL7⟩ : ∃ l, L7.length = l := ⟨_, rfl⟩
  have EL7 := Lib.hid hL7
  have ZL7 := Lib.hid hlL7
  clear hL7 hlL7
  have Q5 := Lib.hid (show L5 = L7 from by rw [← EL5.out, ← EL7.out]; exact lat_uc (VR.from n k A0 hn1) (VR.from n k B0 hn1))
  obtain ⟨L8, hL8⟩ : ∃ l : List Int, interL (fromL n k B0) (fromL n k A0) = l := ⟨_, rfl⟩
  have vL8 := Lib.hid (by rw [← hL8]; exact VR.inter (by rw [EL2.out]; exact vL2.out) (by rw [EL1.out]; exact vL1.out) : VR n (k) L8)
  obtain ⟨lL8, hlL8⟩ : ∃ l, L8.length = l := ⟨_, rfl⟩
  have EL8 := Lib.hid hL8
  have ZL8 := Lib.hid hlL8
  clear hL8 hlL8
  have Q7 := Lib.hid (show L6 = L8 from by rw [← EL6.out, ← EL8.out]; exact lat_ic (VR.from n k A0 hn1) (VR.from n k B0 hn1))
  obtain ⟨L9, hL9⟩ : ∃ l : List Int, unionL (unionL (fromL n k A0) (fromL n k B0)) (fromL n k C0) = l := ⟨_, rfl⟩
  have vL9 := Lib.hid (by rw [← hL9]; exact VR.union (by rw [EL5.out]; exact vL5.out) (by rw [EL3.out]; exact vL3.out) : VR n (k) L9)
  obtain ⟨lL9, hlL9⟩ : ∃ l, L9.length = l := ⟨_, rfl⟩
  have EL9 := Lib.hid hL9
  have ZL9 := Lib.hid hlL9
  clear hL9 hlL9
  obtain ⟨L10, hL10⟩ : ∃ l : List Int, unionL (fromL n k B0) (fromL n k C0) = l := ⟨_, rfl⟩
  have vL10 := Lib.hid (by rw [← hL10]; exact VR.union (by rw [EL2.out]; exact vL2.out) (by rw [EL3.out]; exact vL3.out) : VR n (k) L10)
  obtain ⟨lL10, hlL10⟩ : ∃ l, L10.length = l := ⟨_, rfl⟩
  have EL10 := Lib.hid hL10
  have ZL10 := Lib.hid hlL10
  clear hL10 hlL10
  obtain ⟨L11, hL11⟩ : ∃ l : List Int, unionL (fromL n k A0) (unionL (fromL n k B0) (fromL n k C0)) = l := ⟨_, rfl⟩
  have vL11 := Lib.hid (by rw [← hL11]; exact VR.union (by rw [EL1.out]; exact vL1.out) (by rw [EL10.out]; exact vL10.out) : VR n (k) L11)
  obtain ⟨lL11, hlL11⟩ : ∃ l, L11.length = l := ⟨_, rfl⟩
  have EL11 := Lib.hid hL11
  have ZL11 := Lib.hid hlL11
  clear hL11 hlL11
  have Q11 := Lib.hid (show L9 = L11 from by rw [← EL9.out, ← EL11.out]; exact lat_ua (VR.from n k A0 hn1) (VR.from n k B0 hn1) (VR.from n k C0 hn1))
  obtain ⟨L12, hL12⟩ : ∃ l : List Int, interL (interL (fromL n k A0) (fromL n k B0)) (fromL n k C0) = l := ⟨_, rfl⟩
  have vL12 := Lib.hid (by rw [← hL12]; exact VR.inter (by rw [EL6.out]; exact vL6.out) (by rw [EL3.out]; exact vL3.out) : VR n (k) L12)
  obtain ⟨lL12, hlL12⟩ : ∃ l, L12.length = l := ⟨_, rfl⟩
  have EL12 := Lib.hid hL12
  have ZL12 := Lib.hid hlL12
  clear hL12 hlL12
  obtain ⟨L13, hL13⟩ : ∃ l : List Int, interL (fromL n k B0) (fromL n k C0) = l := ⟨_, rfl⟩
  have vL13 := Lib.hid (by rw [← hL13]; exact VR.inter (by rw [EL2.out]; exact vL2.out) (by rw [EL3.out]; exact vL3.out) : VR n (k) L13)
  obtain ⟨lL13, hlL13⟩ : ∃ l, L13.length = l := ⟨_, rfl⟩
  have EL13 := Lib.hid hL13
  have ZL13 := Lib.hid hlL13
  clear hL13 hlL13
  obtain ⟨L14, hL14⟩ : ∃ l : List Int, interL (fromL n k A0) (interL (fromL n k B0) (fromL n k C0)) = l := ⟨_, rfl⟩
  have vL14 := Lib.hid (by rw [← hL14]; exact VR.inter (by rw [EL1.out]; exact vL1.out) (by rw [EL13.out]; exact vL13.out) : VR n (k) L14)
  obtain ⟨lL14, hlL14⟩ : ∃ l, L14.length = l := ⟨_, rfl⟩
  have EL14 := Lib.hid hL14
  have ZL14 := Lib.hid hlL14
  clear hL14 hlL14
  have Q15 := Lib.hid (show L12 = L14 from by rw [← EL12.out, ← EL14.out]; exact lat_ia (VR.from n k A0 hn1) (VR.from n k B0 hn1) (VR.from n k C0 hn1))
  obtain ⟨L15, hL15⟩ : ∃ l : List Int, interL (fromL n k A0) (unionL (fromL n k B0) (fromL n k C0)) = l := ⟨_, rfl⟩
  have vL15 := Lib.hid (by rw [← hL15]; exact VR.inter (by rw [EL1.out]; exact vL1.out) (by rw [EL10.out]; exact vL10.out) : VR n (k) L15)
  obtain ⟨lL15, hlL15⟩ : ∃ l, L15.length = l := ⟨_, rfl⟩
  have EL15 := Lib.hid hL15
  have ZL15 := Lib.hid hlL15
  clear hL15 hlL15
  obtain ⟨L16, hL16⟩ : ∃ l : List Int, interL (fromL n k A0) (fromL n k C0) = l := ⟨_, rfl⟩
  have vL16 := Lib.hid (by rw [← hL16]; exact VR.inter (by rw [EL1.out]; exact vL1.out) (by rw [EL3.out]; exact vL3.out) : VR n (k) L16)
  obtain ⟨lL16, hlL16⟩ : ∃ l, L16.length = l := ⟨_, rfl⟩
  have EL16 := Lib.hid hL16
  have ZL16 := Lib.hid hlL16
  clear hL16 hlL16
  obtain ⟨L17, hL17⟩ : ∃ l : List Int, unionL (interL (fromL n k A0) (fromL n k B0)) (interL (fromL n k A0) (fromL n k C0)) = l := ⟨_, rfl⟩
  have vL17 := Lib.hid (by rw [← hL17]; exact VR.union (by rw [EL6.out]; exact vL6.out) (by rw [EL16.out]; exact vL16.out) : VR n (k) L17)
  obtain ⟨lL17, hlL17⟩ : ∃ l, L17.length = l := ⟨_, rfl⟩
  have EL17 := Lib.hid hL17
  have ZL17 := Lib.hid hlL17
  clear hL17 hlL17
  have Q20 := Lib.hid (show L15 = L17 from by rw [← EL15.out, ← EL17.out]; exact lat_d1 (VR.from n k A0 hn1) (VR.from n k B0 hn1) (VR.from n k C0 hn1))
  obtain ⟨L18, hL18⟩ : ∃ l : List Int, unionL (fromL n k A0) (interL (fromL n k B0) (fromL n k C0)) = l := ⟨_, rfl⟩
  have vL18 := Lib.hid (by rw [← hL18]; exact VR.union (by rw [EL1.out]; exact vL1.out) (by rw [EL13.out]; exact vL13.out) : VR n (k) L18)
  obtain ⟨lL18, hlL18⟩ : ∃ l, L18.length = l := ⟨_, rfl⟩
  have EL18 := Lib.hid hL18
  have ZL18 := Lib.hid hlL18
  clear hL18 hlL18
  obtain ⟨L19, hL19⟩ : ∃ l : List Int, unionL (fromL n k A0) (fromL n k C0) = l := ⟨_, rfl⟩
  have vL19 := Lib.hid (by rw [← hL19]; exact VR.union (by rw [EL1.out]; exact vL1.out) (by rw [EL3.out]; exact vL3.out) : VR n (k) L19)
  obtain ⟨lL19, hlL19⟩ : ∃ l, L19.length = l := ⟨_, rfl⟩
  have EL19 := Lib.hid hL19
  have ZL19 := Lib.hid hlL19
  clear hL19 hlL19
  obtain ⟨L20, hL20⟩ : ∃ l : List Int, interL (unionL (fromL n k A0) (fromL n k B0)) (unionL (fromL n k A0) (fromL n k C0)) = l := ⟨_, rfl⟩
  have vL20 := Lib.hid (by rw [← hL20]; exact VR.inter (by rw [EL5.out]; exact vL5.out) (by rw [EL19.out]; exact vL19.out) : VR n (k) L20)
  obtain ⟨lL20, hlL20⟩ : ∃ l, L20.length = l := ⟨_, rfl⟩
  have EL20 := Lib.hid hL20
  have ZL20 := Lib.hid hlL20
  clear hL20 hlL20
  have Q25 := Lib.hid (show L18 = L20 from by rw [← EL18.out, ← EL20.out]; exact lat_d2 (VR.from n k A0 hn1) (VR.from n k B0 hn1) (VR.from n k C0 hn1))
  obtain ⟨L21, hL21⟩ : ∃ l : List Int, unionL (fromL n k A0) (interL (fromL n k A0) (fromL n k B0)) = l := ⟨_, rfl⟩
  have vL21 := Lib.hid (by rw [← hL21]; exact VR.union (by rw [EL1.out]; exact vL1.out) (by rw [EL6.out]; exact vL6.out) : VR n (k) L21)
  obtain ⟨lL21, hlL21⟩ : ∃ l, L21.length = l := ⟨_, rfl⟩
  have EL21 := Lib.hid hL21
  have ZL21 := Lib.hid hlL21
  clear hL21 hlL21
  have Q27 := Lib.hid (show L21 = L1 from by rw [← EL21.out, ← EL1.out]; exact lat_a1 (VR.from n k A0 hn1) (VR.from n k B0 hn1))
  obtain ⟨L22, hL22⟩ : ∃ l : List Int, interL (fromL n k A0) (unionL (fromL n k A0) (fromL n k B0)) = l := ⟨_, rfl⟩
  have vL22 := Lib.hid (by rw [← hL22]; exact VR.inter (by rw [EL1.out]; exact vL1.out) (by rw [EL5.out]; exact vL5.out) : VR n (k) L22)
  obtain ⟨lL22, hlL22⟩ : ∃ l, L22.length = l := ⟨_, rfl⟩
  have EL22 := Lib.hid hL22
  have ZL22 := Lib.hid hlL22
  clear hL22 hlL22
  have Q29 := Lib.hid (show L22 = L1 from by rw [← EL22.out, ← EL1.out]; exact lat_a2 (VR.from n k A0 hn1) (VR.from n k B0 hn1))
  obtain ⟨L23, hL23⟩ : ∃ l : List Int, diffL (fullL n k) (unionL (fromL n k A0) (fromL n k B0)) = l := ⟨_, rfl⟩
  have vL23 := Lib.hid (by rw [← hL23]; exact VR.diff (by rw [EL4.out]; exact vL4.out) (by rw [EL5.out]; exact vL5.out) : VR n (k) L23)
  obtain ⟨lL23, hlL23⟩ : ∃ l, L23.length = l := ⟨_, rfl⟩
  have EL23 := Lib.hid hL23
  have ZL23 := Lib.hid hlL23
  clear hL23 hlL23
  obtain ⟨L24, hL24⟩ : ∃ l : List Int, diffL (fullL n k) (fromL n k A0) = l := ⟨_, rfl⟩
  have vL24 := Lib.hid (by rw [← hL24]; exact VR.diff (by rw [EL4.out]; exact vL4.out) (by rw [EL1.out]; exact vL1.out) : VR n (k) L24)
  obtain ⟨lL24, hlL24⟩ : ∃ l, L24.length = l := ⟨_, rfl⟩
  have EL24 := Lib.hid hL24
  have ZL24 := Lib.hid hlL24
  clear hL24 hlL24
  obtain ⟨L25, hL25⟩ : ∃ l : List Int, diffL (fullL n k) (fromL n k B0) = l := ⟨_, rfl⟩
  have vL25 := Lib.hid (by rw [← hL25]; exact VR.diff (by rw [EL4.out]; exact vL4.out) (by rw [EL2.out]; exact vL2.out) : VR n (k) L25)
  obtain ⟨lL25, hlL25⟩ : ∃ l, L25.length = l := ⟨_, rfl⟩
  have EL25 := Lib.hid hL25
  have ZL25 := Lib.hid hlL25
  clear hL25 hlL25
  obtain ⟨L26, hL26⟩ : ∃ l : List Int, interL (diffL (fullL n k) (fromL n k A0)) (diffL (fullL n k) (fromL n k B0)) = l := ⟨_, rfl⟩
  have vL26 := Lib.hid (by rw [← hL26]; exact VR.inter (by rw [EL24.out]; exact vL24.out) (by rw [EL25.out]; exact vL25.out) : VR n (k) L26)
  obtain ⟨lL26, hlL26⟩ : ∃ l, L26.length = l := ⟨_, rfl⟩
  have EL26 := Lib.hid hL26
  have ZL26 := Lib.hid hlL26
  clear hL26 hlL26
  have Q34 := Lib.hid (show L23 = L26 from by rw [← EL23.out, ← EL26.out]; exact lat_m1 (VR.full n k) (VR.from n k A0 hn1) (VR.from n k B0 hn1))
  obtain ⟨L27, hL27⟩ : ∃ l : List Int, diffL (fullL n k) (interL (fromL n k A0) (fromL n k B0)) = l := ⟨_, rfl⟩
  have vL27 := Lib.hid (by rw [← hL27]; exact VR.diff (by rw [EL4.out]; exact vL4.out) (by rw [EL6.out]; exact vL6.out) : VR n (k) L27)
  obtain ⟨lL27, hlL27⟩ : ∃ l, L27.length = l := ⟨_, rfl⟩
  have EL27 := Lib.hid hL27
  have ZL27 := Lib.hid hlL27
  clear hL27 hlL27
  obtain ⟨L28, hL28⟩ : ∃ l : List Int, unionL (diffL (fullL n k) (fromL n k A0)) (diffL (fullL n k) (fromL n k B0)) = l := ⟨_, rfl⟩
  have vL28 := Lib.hid (by rw [← hL28]; exact VR.union (by rw [EL24.out]; exact vL24.out) (by rw [EL25.out]; exact vL25.out) : VR n (k) L28)
  obtain ⟨lL28, hlL28⟩ : ∃ l, L28.length = l := ⟨_, rfl⟩
  have EL28 := Lib.hid hL28
  have ZL28 := Lib.hid hlL28
  clear hL28 hlL28
  have Q39 := Lib.hid (show L27 = L28 from by rw [← EL27.out, ← EL28.out]; exact lat_m2 (VR.full n k) (VR.from n k A0 hn1) (VR.from n k B0 hn1))
  have HSUM := Lib.hid (show IntKind.i64.wrap ((lL5 : Int) + lL6) = (lL1 : Int) + lL2 ∧ IntKind.i64.wrap ((lL1 : Int) + lL2) = (lL1 : Int) + lL2 from by
    have h0 := lat_count (fromL n k A0) (fromL n k B0)
    rw [EL5.out, EL6.out, EL1.out, EL2.out, ZL5.out, ZL6.out, ZL1.out, ZL2.out] at h0
    have h1 := vL1.out.len hn5 hk3; have h2 := vL2.out.len hn5 hk3
    rw [ZL1.out] at h1; rw [ZL2.out] at h2
    exact ⟨by rw [IntWalk.i64_in _ (by omega)]; omega, IntWalk.i64_in _ (by omega)⟩)
  have Q40 := Lib.hid (show decide (∀ z ∈ L1, z ∈ L2) = Q from by exact hQ)
  have Q41 := Lib.hid (show decide (L6 = L1) = Q from by rw [← hQ]; exact decide_eq_decide.2 (by rw [← EL6.out, ← EL1.out, ← EL2.out]; exact lat_in (VR.from n k A0 hn1) (VR.from n k B0 hn1)))
  have Q42 := Lib.hid (show ∀ z ∈ L6, z ∈ L1 from by rw [← EL6.out, ← EL1.out]; exact lat_i1 (VR.from n k A0 hn1) (VR.from n k B0 hn1))
  have Q43 := Lib.hid (show ∀ z ∈ L1, z ∈ L5 from by rw [← EL1.out, ← EL5.out]; exact lat_i2 (VR.from n k A0 hn1) (VR.from n k B0 hn1))
  have Q44 := Lib.hid (show ∀ z ∈ L1, z ∈ L4 from by rw [← EL1.out, ← EL4.out]; exact lat_i3 (VR.from n k A0 hn1))
  obtain ⟨L29, hL29⟩ : ∃ l : List Int, diffL (fromL n k A0) (fromL n k B0) = l := ⟨_, rfl⟩
  have vL29 := Lib.hid (by rw [← hL29]; exact VR.diff (by rw [EL1.out]; exact vL1.out) (by rw [EL2.out]; exact vL2.out) : VR n (k) L29)
  obtain ⟨lL29, hlL29⟩ : ∃ l, L29.length = l := ⟨_, rfl⟩
  have EL29 := Lib.hid hL29
  have ZL29 := Lib.hid hlL29
  clear hL29 hlL29
  obtain ⟨L30, hL30⟩ : ∃ l : List Int, diffL (fromL n k A0) (interL (fromL n k A0) (fromL n k B0)) = l := ⟨_, rfl⟩
  have vL30 := Lib.hid (by rw [← hL30]; exact VR.diff (by rw [EL1.out]; exact vL1.out) (by rw [EL6.out]; exact vL6.out) : VR n (k) L30)
  obtain ⟨lL30, hlL30⟩ : ∃ l, L30.length = l := ⟨_, rfl⟩
  have EL30 := Lib.hid hL30
  have ZL30 := Lib.hid hlL30
  clear hL30 hlL30
  have Q47 := Lib.hid (show L29 = L30 from by rw [← EL29.out, ← EL30.out]; exact lat_df (VR.from n k A0 hn1) (VR.from n k B0 hn1))
  obtain ⟨lA0, hlA0⟩ : ∃ l, A0.length = l := ⟨_, rfl⟩
  obtain ⟨lB0, hlB0⟩ : ∃ l, B0.length = l := ⟨_, rfl⟩
  obtain ⟨lC0, hlC0⟩ : ∃ l, C0.length = l := ⟨_, rfl⟩
  have ZA0 := Lib.hid hlA0; have ZB0 := Lib.hid hlB0; have ZC0 := Lib.hid hlC0
  rw [hlA0, hlB0, hlC0]
  clear hlA0 hlB0 hlC0
  have hg := World.grownBy_alloc W0 (.cells #[.int .u8 (N : Int), .int .u8 (Ar : Int), .slice aa lA0 ca, .slice ab lB0 cb, .slice ac lC0 cc] 24) none
  have hb0 : (W0.alloc (.cells #[.int .u8 (N : Int), .int .u8 (Ar : Int), .slice aa lA0 ca, .slice ab lB0 cb, .slice ac lC0 cc] 24)).cell? ⟨W0.heap.size, 0, none⟩ = some (.int .u8 (N : Int)) := by go_simp
  have hb1 : (W0.alloc (.cells #[.int .u8 (N : Int), .int .u8 (Ar : Int), .slice aa lA0 ca, .slice ab lB0 cb, .slice ac lC0 cc] 24)).cell? ⟨W0.heap.size, 1, none⟩ = some (.int .u8 (Ar : Int)) := by go_simp
  have hb2 : (W0.alloc (.cells #[.int .u8 (N : Int), .int .u8 (Ar : Int), .slice aa lA0 ca, .slice ab lB0 cb, .slice ac lC0 cc] 24)).cell? ⟨W0.heap.size, 2, none⟩ = some (.slice aa lA0 ca) := by go_simp
  have hb3 : (W0.alloc (.cells #[.int .u8 (N : Int), .int .u8 (Ar : Int), .slice aa lA0 ca, .slice ab lB0 cb, .slice ac lC0 cc] 24)).cell? ⟨W0.heap.size, 3, none⟩ = some (.slice ab lB0 cb) := by go_simp
  have hb4 : (W0.alloc (.cells #[.int .u8 (N : Int), .int .u8 (Ar : Int), .slice aa lA0 ca, .slice ab lB0 cb, .slice ac lC0 cc] 24)).cell? ⟨W0.heap.size, 4, none⟩ = some (.slice ac lC0 cc) := by go_simp
  obtain ⟨V0, hV0⟩ : ∃ V, W0.alloc (.cells #[.int .u8 (N : Int), .int .u8 (Ar : Int), .slice aa lA0 ca, .slice ab lB0 cb, .slice ac lC0 cc] 24) = V := ⟨_, rfl⟩
  rw [hV0] at hg hb0 hb1 hb2 hb3 hb4
  have HG := Lib.hid hg
  have HRB := Lib.hid (And.intro hb0 (And.intro hb1 (And.intro hb2 (And.intro hb3 hb4))))
  have HR := Lib.hid (h.grown hg)
  clear hg hb0 hb1 hb2 hb3 hb4 h
  go_enter Try.func5, Try.ntmps5
  have qr0 := HRB.out.1
  have qr1 := HRB.out.2.1
  have qr2 := HRB.out.2.2.1
  have qr3 := HRB.out.2.2.2.1
  have qr4 := HRB.out.2.2.2.2
  go_upto_region 1 with fail
  clear qr0 qr1 qr2 qr3 qr4
  clear hV0
  have qr0 := HRB.out.1
  have qr1 := HRB.out.2.1
  have qr2 := HRB.out.2.2.1
  have qr3 := HRB.out.2.2.2.1
  have qr4 := HRB.out.2.2.2.2
  go_wp2_with fail
  clear qr0 qr1 qr2 qr3 qr4
  refine (head_calls _).mono ?_
  rintro e V1 ⟨rfl, g⟩
  replace HRB := Lib.hid (And.intro (World.grownBy.cell g HRB.out.1 (by simp)) (And.intro (World.grownBy.cell g HRB.out.2.1 (by simp)) (And.intro (World.grownBy.cell g HRB.out.2.2.1 (by simp)) (And.intro (World.grownBy.cell g HRB.out.2.2.2.1 (by simp)) (World.grownBy.cell g HRB.out.2.2.2.2 (by simp))))))
  replace HR := Lib.hid (HR.out.grown g)
  replace HG := Lib.hid (World.grownBy.trans HG.out g)
  clear g
  have qr0 := HRB.out.1
  have qr1 := HRB.out.2.1
  have qr2 := HRB.out.2.2.1
  have qr3 := HRB.out.2.2.2.1
  have qr4 := HRB.out.2.2.2.2
  go_wp2_with fail
  clear qr0 qr1 qr2 qr3 qr4
  refine (threeV hNN.out hKK.out EL1.out EL2.out EL3.out ZA0.out ZB0.out ZC0.out ZL1.out ZL2.out ZL3.out _ HR.out).mono ?_
  rintro e V2 ⟨xa, xb, xc, ya, yb, yc, rfl, ia, ib, ic, g⟩
  replace HRB := Lib.hid (And.intro (World.grownBy.cell g HRB.out.1 (by simp)) (And.intro (World.grownBy.cell g HRB.out.2.1 (by simp)) (And.intro (World.grownBy.cell g HRB.out.2.2.1 (by simp)) (And.intro (World.grownBy.cell g HRB.out.2.2.2.1 (by simp)) (World.grownBy.cell g HRB.out.2.2.2.2 (by simp))))))
  replace HR := Lib.hid (HR.out.grown g)
  replace HG := Lib.hid (World.grownBy.trans HG.out g)
  clear g
  have Ha := Lib.hid ia; have Hb := Lib.hid ib; have Hc := Lib.hid ic
  clear ia ib ic HRB HR
  go_upto_region 3 with fail
  have hs6 := (Six.new V2 (.int .i64 ((k : Nat) : Int)) (.slice xa lL1 ya) (.int .i64 ((k : Nat) : Int)) (.slice xb lL2 yb) (.int .i64 ((k : Nat) : Int)) (.slice xc lL3 yc) 29).1
  have g := World.grownBy_alloc V2 (.cells #[.int .i64 ((k : Nat) : Int), .slice xa lL1 ya, .int .i64 ((k : Nat) : Int), .slice xb lL2 yb, .int .i64 ((k : Nat) : Int), .slice xc lL3 yc] 29) none
  obtain ⟨V3, hV3⟩ : ∃ z, World.alloc V2 (.cells #[.int .i64 ((k : Nat) : Int), .slice xa lL1 ya, .int .i64 ((k : Nat) : Int), .slice xb lL2 yb, .int .i64 ((k : Nat) : Int), .slice xc lL3 yc] 29) = z := ⟨_, rfl⟩
  rw [hV3] at g hs6 ⊢
  clear hV3
  obtain ⟨bT, hb⟩ : ∃ b, V2.heap.size = b := ⟨_, rfl⟩
  rw [hb] at hs6 ⊢
  clear hb
  replace Ha := Lib.hid (Ha.out.grown g)
  replace Hb := Lib.hid (Hb.out.grown g)
  replace Hc := Lib.hid (Hc.out.grown g)
  replace HG := Lib.hid (World.grownBy.trans HG.out g)
  clear g
  have HT := Lib.hid hs6
  clear hs6
  have t0 := HT.out.1
  have t1 := HT.out.2.1
  have t2 := HT.out.2.2.1
  have t3 := HT.out.2.2.2.1
  have t4 := HT.out.2.2.2.2.1
  have t5 := HT.out.2.2.2.2.2
  go_upto_region 4 with fail
  clear t0 t1 t2 t3 t4 t5
  have hbx := one_cells V3 (.int .i64 (k : Nat)) (.slice xa lL1 ya) 27
  have g := World.grownBy_alloc V3 (.cells #[.int .i64 (k : Nat), .slice xa lL1 ya] 27) none
  obtain ⟨V4, hV4⟩ : ∃ z, World.alloc V3 (.cells #[.int .i64 (k : Nat), .slice xa lL1 ya] 27) = z := ⟨_, rfl⟩
  rw [hV4] at g hbx ⊢
  clear hV4
  obtain ⟨bB6, hb⟩ : ∃ b, V3.heap.size = b := ⟨_, rfl⟩
  rw [hb] at hbx ⊢
  clear hb
  replace Ha := Lib.hid (Ha.out.grown g)
  replace Hb := Lib.hid (Hb.out.grown g)
  replace Hc := Lib.hid (Hc.out.grown g)
  replace HT := Lib.hid (And.intro (World.grownBy.cell g HT.out.1 (by simp)) (And.intro (World.grownBy.cell g HT.out.2.1 (by simp)) (And.intro (World.grownBy.cell g HT.out.2.2.1 (by simp)) (And.intro (World.grownBy.cell g HT.out.2.2.2.1 (by simp)) (And.intro (World.grownBy.cell g HT.out.2.2.2.2.1 (by simp)) (World.grownBy.cell g HT.out.2.2.2.2.2 (by simp)))))))
  replace HG := Lib.hid (World.grownBy.trans HG.out g)
  clear g
  have HB6 := Lib.hid (And.intro hbx.2.1 hbx.2.2.1)
  clear hbx
  have qB60 := HB6.out.1
  have qB61 := HB6.out.2
  have t0 := HT.out.1
  have t1 := HT.out.2.1
  have t2 := HT.out.2.2.1
  have t3 := HT.out.2.2.2.1
  have t4 := HT.out.2.2.2.2.1
  have t5 := HT.out.2.2.2.2.2
  go_upto_region 5 with fail
  clear qB60 qB61 t0 t1 t2 t3 t4 t5
  have hbx := one_cells V4 (.int .i64 (k : Nat)) (.slice xb lL2 yb) 27
  have g := World.grownBy_alloc V4 (.cells #[.int .i64 (k : Nat), .slice xb lL2 yb] 27) none
  obtain ⟨V5, hV5⟩ : ∃ z, World.alloc V4 (.cells #[.int .i64 (k : Nat), .slice xb lL2 yb] 27) = z := ⟨_, rfl⟩
  rw [hV5] at g hbx ⊢
  clear hV5
  obtain ⟨bB7, hb⟩ : ∃ b, V4.heap.size = b := ⟨_, rfl⟩
  rw [hb] at hbx ⊢
  clear hb
  replace Ha := Lib.hid (Ha.out.grown g)
  replace Hb := Lib.hid (Hb.out.grown g)
  replace Hc := Lib.hid (Hc.out.grown g)
  replace HB6 := Lib.hid (And.intro (World.grownBy.cell g HB6.out.1 (by simp)) (World.grownBy.cell g HB6.out.2 (by simp)))
  replace HT := Lib.hid (And.intro (World.grownBy.cell g HT.out.1 (by simp)) (And.intro (World.grownBy.cell g HT.out.2.1 (by simp)) (And.intro (World.grownBy.cell g HT.out.2.2.1 (by simp)) (And.intro (World.grownBy.cell g HT.out.2.2.2.1 (by simp)) (And.intro (World.grownBy.cell g HT.out.2.2.2.2.1 (by simp)) (World.grownBy.cell g HT.out.2.2.2.2.2 (by simp)))))))
  replace HG := Lib.hid (World.grownBy.trans HG.out g)
  clear g
  have HB7 := Lib.hid (And.intro hbx.2.1 hbx.2.2.1)
  clear hbx
  have qB60 := HB6.out.1
  have qB61 := HB6.out.2
  have qB70 := HB7.out.1
  have qB71 := HB7.out.2
  have t0 := HT.out.1
  have t1 := HT.out.2.1
  have t2 := HT.out.2.2.1
  have t3 := HT.out.2.2.2.1
  have t4 := HT.out.2.2.2.2.1
  have t5 := HT.out.2.2.2.2.2
  go_upto_region 6 with fail
  clear qB60 qB61 qB70 qB71 t0 t1 t2 t3 t4 t5
  have hbx := one_cells V5 (.int .i64 (k : Nat)) (.slice xc lL3 yc) 27
  have g := World.grownBy_alloc V5 (.cells #[.int .i64 (k : Nat), .slice xc lL3 yc] 27) none
  obtain ⟨V6, hV6⟩ : ∃ z, World.alloc V5 (.cells #[.int .i64 (k : Nat), .slice xc lL3 yc] 27) = z := ⟨_, rfl⟩
  rw [hV6] at g hbx ⊢
  clear hV6
  obtain ⟨bB8, hb⟩ : ∃ b, V5.heap.size = b := ⟨_, rfl⟩
  rw [hb] at hbx ⊢
  clear hb
  replace Ha := Lib.hid (Ha.out.grown g)
  replace Hb := Lib.hid (Hb.out.grown g)
  replace Hc := Lib.hid (Hc.out.grown g)
  replace HB6 := Lib.hid (And.intro (World.grownBy.cell g HB6.out.1 (by simp)) (World.grownBy.cell g HB6.out.2 (by simp)))
  replace HB7 := Lib.hid (And.intro (World.grownBy.cell g HB7.out.1 (by simp)) (World.grownBy.cell g HB7.out.2 (by simp)))
  replace HT := Lib.hid (And.intro (World.grownBy.cell g HT.out.1 (by simp)) (And.intro (World.grownBy.cell g HT.out.2.1 (by simp)) (And.intro (World.grownBy.cell g HT.out.2.2.1 (by simp)) (And.intro (World.grownBy.cell g HT.out.2.2.2.1 (by simp)) (And.intro (World.grownBy.cell g HT.out.2.2.2.2.1 (by simp)) (World.grownBy.cell g HT.out.2.2.2.2.2 (by simp)))))))
  replace HG := Lib.hid (World.grownBy.trans HG.out g)
  clear g
  have HB8 := Lib.hid (And.intro hbx.2.1 hbx.2.2.1)
  clear hbx
  clear HT
  have qB60 := HB6.out.1
  have qB61 := HB6.out.2
  have qB70 := HB7.out.1
  have qB71 := HB7.out.2
  have qB80 := HB8.out.1
  have qB81 := HB8.out.2
  go_wp2_with fail
  clear qB60 qB61 qB70 qB71 qB80 qB81
  refine (fullV (k := k) hn5 hk3 EL4.out ZL4.out _).mono ?_
  rintro e V7 ⟨xr1, yr1, rfl, hr, g⟩
  replace Ha := Lib.hid (Ha.out.grown g)
  replace Hb := Lib.hid (Hb.out.grown g)
  replace Hc := Lib.hid (Hc.out.grown g)
  replace HB6 := Lib.hid (And.intro (World.grownBy.cell g HB6.out.1 (by simp)) (World.grownBy.cell g HB6.out.2 (by simp)))
  replace HB7 := Lib.hid (And.intro (World.grownBy.cell g HB7.out.1 (by simp)) (World.grownBy.cell g HB7.out.2 (by simp)))
  replace HB8 := Lib.hid (And.intro (World.grownBy.cell g HB8.out.1 (by simp)) (World.grownBy.cell g HB8.out.2 (by simp)))
  replace HG := Lib.hid (World.grownBy.trans HG.out g)
  clear g
  have Hr1 := Lib.hid hr
  clear hr
  have qB60 := HB6.out.1
  have qB61 := HB6.out.2
  have qB70 := HB7.out.1
  have qB71 := HB7.out.2
  have qB80 := HB8.out.1
  have qB81 := HB8.out.2
  go_upto_region 7 with fail
  clear qB60 qB61 qB70 qB71 qB80 qB81
  have hbx := one_cells V7 (.int .i64 (k : Nat)) (.slice xr1 lL4 yr1) 27
  have g := World.grownBy_alloc V7 (.cells #[.int .i64 (k : Nat), .slice xr1 lL4 yr1] 27) none
  obtain ⟨V8, hV8⟩ : ∃ z, World.alloc V7 (.cells #[.int .i64 (k : Nat), .slice xr1 lL4 yr1] 27) = z := ⟨_, rfl⟩
  rw [hV8] at g hbx ⊢
  clear hV8
  obtain ⟨bB9, hb⟩ : ∃ b, V7.heap.size = b := ⟨_, rfl⟩
  rw [hb] at hbx ⊢
  clear hb
  replace Ha := Lib.hid (Ha.out.grown g)
  replace Hb := Lib.hid (Hb.out.grown g)
  replace Hc := Lib.hid (Hc.out.grown g)
  replace Hr1 := Lib.hid (Hr1.out.grown g)
  replace HB6 := Lib.hid (And.intro (World.grownBy.cell g HB6.out.1 (by simp)) (World.grownBy.cell g HB6.out.2 (by simp)))
  replace HB7 := Lib.hid (And.intro (World.grownBy.cell g HB7.out.1 (by simp)) (World.grownBy.cell g HB7.out.2 (by simp)))
  replace HB8 := Lib.hid (And.intro (World.grownBy.cell g HB8.out.1 (by simp)) (World.grownBy.cell g HB8.out.2 (by simp)))
  replace HG := Lib.hid (World.grownBy.trans HG.out g)
  clear g
  have HB9 := Lib.hid (And.intro hbx.2.1 hbx.2.2.1)
  clear hbx
  have qB60 := HB6.out.1
  have qB61 := HB6.out.2
  have qB70 := HB7.out.1
  have qB71 := HB7.out.2
  have qB80 := HB8.out.1
  have qB81 := HB8.out.2
  have qB90 := HB9.out.1
  have qB91 := HB9.out.2
  go_wp2_with fail
  clear qB60 qB61 qB70 qB71 qB80 qB81 qB90 qB91
  refine (unionV (k : Nat) (k : Nat) vL1.out vL2.out hn5 hk3 (by rw [← EL1.out, ← EL2.out]; exact EL5.out) ZL1.out ZL2.out ZL5.out _ _ _ _ _ Ha.out Hb.out).mono ?_
  rintro e V9 ⟨xr2, yr2, rfl, hr, g⟩
  replace Ha := Lib.hid (Ha.out.grown g)
  replace Hb := Lib.hid (Hb.out.grown g)
  replace Hc := Lib.hid (Hc.out.grown g)
  replace Hr1 := Lib.hid (Hr1.out.grown g)
  replace HB6 := Lib.hid (And.intro (World.grownBy.cell g HB6.out.1 (by simp)) (World.grownBy.cell g HB6.out.2 (by simp)))
  replace HB7 := Lib.hid (And.intro (World.grownBy.cell g HB7.out.1 (by simp)) (World.grownBy.cell g HB7.out.2 (by simp)))
  replace HB8 := Lib.hid (And.intro (World.grownBy.cell g HB8.out.1 (by simp)) (World.grownBy.cell g HB8.out.2 (by simp)))
  replace HB9 := Lib.hid (And.intro (World.grownBy.cell g HB9.out.1 (by simp)) (World.grownBy.cell g HB9.out.2 (by simp)))
  replace HG := Lib.hid (World.grownBy.trans HG.out g)
  clear g
  have Hr2 := Lib.hid hr
  clear hr
  have qB60 := HB6.out.1
  have qB61 := HB6.out.2
  have qB70 := HB7.out.1
  have qB71 := HB7.out.2
  have qB80 := HB8.out.1
  have qB81 := HB8.out.2
  have qB90 := HB9.out.1
  have qB91 := HB9.out.2
  go_upto_region 8 with fail
  clear qB60 qB61 qB70 qB71 qB80 qB81 qB90 qB91
  have hbx := one_cells V9 (.int .i64 (k : Nat)) (.slice xr2 lL5 yr2) 27
  have g := World.grownBy_alloc V9 (.cells #[.int .i64 (k : Nat), .slice xr2 lL5 yr2] 27) none
  obtain ⟨V10, hV10⟩ : ∃ z, World.alloc V9 (.cells #[.int .i64 (k : Nat), .slice xr2 lL5 yr2] 27) = z := ⟨_, rfl⟩
  rw [hV10] at g hbx ⊢
  clear hV10
  obtain ⟨bB10, hb⟩ : ∃ b, V9.heap.size = b := ⟨_, rfl⟩
  rw [hb] at hbx ⊢
  clear hb
  replace Ha := Lib.hid (Ha.out.grown g)
  replace Hb := Lib.hid (Hb.out.grown g)
  replace Hc := Lib.hid (Hc.out.grown g)
  replace Hr1 := Lib.hid (Hr1.out.grown g)
  replace Hr2 := Lib.hid (Hr2.out.grown g)
  replace HB6 := Lib.hid (And.intro (World.grownBy.cell g HB6.out.1 (by simp)) (World.grownBy.cell g HB6.out.2 (by simp)))
  replace HB7 := Lib.hid (And.intro (World.grownBy.cell g HB7.out.1 (by simp)) (World.grownBy.cell g HB7.out.2 (by simp)))
  replace HB8 := Lib.hid (And.intro (World.grownBy.cell g HB8.out.1 (by simp)) (World.grownBy.cell g HB8.out.2 (by simp)))
  replace HB9 := Lib.hid (And.intro (World.grownBy.cell g HB9.out.1 (by simp)) (World.grownBy.cell g HB9.out.2 (by simp)))
  replace HG := Lib.hid (World.grownBy.trans HG.out g)
  clear g
  have HB10 := Lib.hid (And.intro hbx.2.1 hbx.2.2.1)
  clear hbx
  have qB60 := HB6.out.1
  have qB61 := HB6.out.2
  have qB70 := HB7.out.1
  have qB71 := HB7.out.2
  have qB80 := HB8.out.1
  have qB81 := HB8.out.2
  have qB90 := HB9.out.1
  have qB91 := HB9.out.2
  have qB100 := HB10.out.1
  have qB101 := HB10.out.2
  go_wp2_with fail
  clear qB60 qB61 qB70 qB71 qB80 qB81 qB90 qB91 qB100 qB101
  refine (interV (k : Nat) (k : Nat) vL1.out vL2.out hn5 hk3 (by rw [← EL1.out, ← EL2.out]; exact EL6.out) ZL1.out ZL2.out ZL6.out _ _ _ _ _ Ha.out Hb.out).mono ?_
  rintro e V11 ⟨xr3, yr3, rfl, hr, g⟩
  replace Ha := Lib.hid (Ha.out.grown g)
  replace Hb := Lib.hid (Hb.out.grown g)
  replace Hc := Lib.hid (Hc.out.grown g)
  replace Hr1 := Lib.hid (Hr1.out.grown g)
  replace Hr2 := Lib.hid (Hr2.out.grown g)
  replace HB6 := Lib.hid (And.intro (World.grownBy.cell g HB6.out.1 (by simp)) (World.grownBy.cell g HB6.out.2 (by simp)))
  replace HB7 := Lib.hid (And.intro (World.grownBy.cell g HB7.out.1 (by simp)) (World.grownBy.cell g HB7.out.2 (by simp)))
  replace HB8 := Lib.hid (And.intro (World.grownBy.cell g HB8.out.1 (by simp)) (World.grownBy.cell g HB8.out.2 (by simp)))
  replace HB9 := Lib.hid (And.intro (World.grownBy.cell g HB9.out.1 (by simp)) (World.grownBy.cell g HB9.out.2 (by simp)))
  replace HB10 := Lib.hid (And.intro (World.grownBy.cell g HB10.out.1 (by simp)) (World.grownBy.cell g HB10.out.2 (by simp)))
  replace HG := Lib.hid (World.grownBy.trans HG.out g)
  clear g
  have Hr3 := Lib.hid hr
  clear hr
  have qB60 := HB6.out.1
  have qB61 := HB6.out.2
  have qB70 := HB7.out.1
  have qB71 := HB7.out.2
  have qB80 := HB8.out.1
  have qB81 := HB8.out.2
  have qB90 := HB9.out.1
  have qB91 := HB9.out.2
  have qB100 := HB10.out.1
  have qB101 := HB10.out.2
  go_upto_region 9 with fail
  clear qB60 qB61 qB70 qB71 qB80 qB81 qB90 qB91 qB100 qB101
  have hbx := one_cells V11 (.int .i64 (k : Nat)) (.slice xr3 lL6 yr3) 27
  have g := World.grownBy_alloc V11 (.cells #[.int .i64 (k : Nat), .slice xr3 lL6 yr3] 27) none
  obtain ⟨V12, hV12⟩ : ∃ z, World.alloc V11 (.cells #[.int .i64 (k : Nat), .slice xr3 lL6 yr3] 27) = z := ⟨_, rfl⟩
  rw [hV12] at g hbx ⊢
  clear hV12
  obtain ⟨bB11, hb⟩ : ∃ b, V11.heap.size = b := ⟨_, rfl⟩
  rw [hb] at hbx ⊢
  clear hb
  replace Ha := Lib.hid (Ha.out.grown g)
  replace Hb := Lib.hid (Hb.out.grown g)
  replace Hc := Lib.hid (Hc.out.grown g)
  replace Hr1 := Lib.hid (Hr1.out.grown g)
  replace Hr2 := Lib.hid (Hr2.out.grown g)
  replace Hr3 := Lib.hid (Hr3.out.grown g)
  replace HB6 := Lib.hid (And.intro (World.grownBy.cell g HB6.out.1 (by simp)) (World.grownBy.cell g HB6.out.2 (by simp)))
  replace HB7 := Lib.hid (And.intro (World.grownBy.cell g HB7.out.1 (by simp)) (World.grownBy.cell g HB7.out.2 (by simp)))
  replace HB8 := Lib.hid (And.intro (World.grownBy.cell g HB8.out.1 (by simp)) (World.grownBy.cell g HB8.out.2 (by simp)))
  replace HB9 := Lib.hid (And.intro (World.grownBy.cell g HB9.out.1 (by simp)) (World.grownBy.cell g HB9.out.2 (by simp)))
  replace HB10 := Lib.hid (And.intro (World.grownBy.cell g HB10.out.1 (by simp)) (World.grownBy.cell g HB10.out.2 (by simp)))
  replace HG := Lib.hid (World.grownBy.trans HG.out g)
  clear g
  have HB11 := Lib.hid (And.intro hbx.2.1 hbx.2.2.1)
  clear hbx
  have HS := Lib.hid (fun (Wh : World) (hWh : V12.grownBy Wh none) => (⟨hWh, hWh.cell HB6.out.1 (by simp), hWh.cell HB6.out.2 (by simp), hWh.cell HB7.out.1 (by simp), hWh.cell HB7.out.2 (by simp), hWh.cell HB8.out.1 (by simp), hWh.cell HB8.out.2 (by simp), hWh.cell HB9.out.1 (by simp), hWh.cell HB9.out.2 (by simp), hWh.cell HB10.out.1 (by simp), hWh.cell HB10.out.2 (by simp), hWh.cell HB11.out.1 (by simp), hWh.cell HB11.out.2 (by simp)⟩ : (fun Wh : World => V12.grownBy Wh none ∧ Wh.cell? ⟨bB6, 0, none⟩ = some (.int .i64 (k : Nat)) ∧ Wh.cell? ⟨bB6, 1, none⟩ = some (.slice xa lL1 ya) ∧ Wh.cell? ⟨bB7, 0, none⟩ = some (.int .i64 (k : Nat)) ∧ Wh.cell? ⟨bB7, 1, none⟩ = some (.slice xb lL2 yb) ∧ Wh.cell? ⟨bB8, 0, none⟩ = some (.int .i64 (k : Nat)) ∧ Wh.cell? ⟨bB8, 1, none⟩ = some (.slice xc lL3 yc) ∧ Wh.cell? ⟨bB9, 0, none⟩ = some (.int .i64 (k : Nat)) ∧ Wh.cell? ⟨bB9, 1, none⟩ = some (.slice xr1 lL4 yr1) ∧ Wh.cell? ⟨bB10, 0, none⟩ = some (.int .i64 (k : Nat)) ∧ Wh.cell? ⟨bB10, 1, none⟩ = some (.slice xr2 lL5 yr2) ∧ Wh.cell? ⟨bB11, 0, none⟩ = some (.int .i64 (k : Nat)) ∧ Wh.cell? ⟨bB11, 1, none⟩ = some (.slice xr3 lL6 yr3)) Wh))
  have hdr : V12.grownBy V12.drew none := ⟨rfl, rfl, rfl, Nat.le_refl _, fun _ _ _ => rfl⟩
  refine wp_region_held_drew (S := (fun Wh : World => V12.grownBy Wh none ∧ Wh.cell? ⟨bB6, 0, none⟩ = some (.int .i64 (k : Nat)) ∧ Wh.cell? ⟨bB6, 1, none⟩ = some (.slice xa lL1 ya) ∧ Wh.cell? ⟨bB7, 0, none⟩ = some (.int .i64 (k : Nat)) ∧ Wh.cell? ⟨bB7, 1, none⟩ = some (.slice xb lL2 yb) ∧ Wh.cell? ⟨bB8, 0, none⟩ = some (.int .i64 (k : Nat)) ∧ Wh.cell? ⟨bB8, 1, none⟩ = some (.slice xc lL3 yc) ∧ Wh.cell? ⟨bB9, 0, none⟩ = some (.int .i64 (k : Nat)) ∧ Wh.cell? ⟨bB9, 1, none⟩ = some (.slice xr1 lL4 yr1) ∧ Wh.cell? ⟨bB10, 0, none⟩ = some (.int .i64 (k : Nat)) ∧ Wh.cell? ⟨bB10, 1, none⟩ = some (.slice xr2 lL5 yr2) ∧ Wh.cell? ⟨bB11, 0, none⟩ = some (.int .i64 (k : Nat)) ∧ Wh.cell? ⟨bB11, 1, none⟩ = some (.slice xr3 lL6 yr3))) (by kernel_rfl) (HS.out _ hdr) (fun hHeld => ?_)
  refine wpAnyH_take (i := 0) (oi := { dst := some 34, op := Op.load 27 (Operand.tmp 10), type := 27, pos := "law.go:96", after := #[], guard := none }) (v := ?_) rfl (by kernel_rfl) (by kernel_rfl) (by kernel_rfl) (fun _ _ _ h => h) (Or.inl ⟨by rfl, ?_⟩) (by assumption) ?_
  rotate_left 1
  · (intro W hSW; (try dsimp only at hSW); first | (go_simp; done) | (go_simp; with_reducible rfl))
  try simp only [Act.put, List.setIfInBounds_toArray, List.set_cons_zero, List.set_cons_succ]
  refine wpAnyH_take (i := 1) (oi := { dst := some 35, op := Op.load 27 (Operand.tmp 7), type := 27, pos := "law.go:96", after := #[], guard := none }) (v := ?_) rfl (by kernel_rfl) (by kernel_rfl) (by kernel_rfl) (fun _ _ _ h => h) (Or.inl ⟨by rfl, ?_⟩) (by assumption) ?_
  rotate_left 1
  · (intro W hSW; (try dsimp only at hSW); first | (go_simp; done) | (go_simp; with_reducible rfl))
  try simp only [Act.put, List.setIfInBounds_toArray, List.set_cons_zero, List.set_cons_succ]
  refine wpAnyH_take (i := 2) (oi := { dst := some 36, op := Op.load 27 (Operand.tmp 6), type := 27, pos := "law.go:96", after := #[], guard := none }) (v := ?_) rfl (by kernel_rfl) (by kernel_rfl) (by kernel_rfl) (fun _ _ _ h => h) (Or.inl ⟨by rfl, ?_⟩) (by assumption) ?_
  rotate_left 1
  · (intro W hSW; (try dsimp only at hSW); first | (go_simp; done) | (go_simp; with_reducible rfl))
  try simp only [Act.put, List.setIfInBounds_toArray, List.set_cons_zero, List.set_cons_succ]
  refine wpAnyH_ready (rs := [3]) (by kernel_rfl) (by simp) ?_
  refine (AllReadyH.cons (o := { dst := some 37, op := Op.call { callee := Callee.value (Operand.func 27), args := #[Operand.tmp 35, Operand.tmp 36], argTypes := #[27, 27] }, type := 27, pos := "law.go:96", after := #[{ on := 1, ground := Ground.data }, { on := 2, ground := Ground.data }], guard := none }) rfl (fun K hK => ?_) AllReadyH.nil)
  rw [if_pos (by rfl)]
  go_simp
  go_at_call 27
  refine (unionV (k : Nat) (k : Nat) vL2.out vL1.out hn5 hk3 (by rw [← EL2.out, ← EL1.out]; exact EL7.out) ZL2.out ZL1.out ZL7.out _ _ _ _ _ (Hb.out.grown hdr) (Ha.out.grown hdr)).mono ?_
  rintro e wc3 ⟨xr4, yr4, rfl, hrr4, gc3⟩
  have hgr3 := World.grownBy.trans hdr gc3
  go_wp2_with fail
  refine hK.out _ _ (HS.out _ hgr3) (fun hHeld => ?_)
  clear hK K
  try simp only [Act.put, List.setIfInBounds_toArray, List.set_cons_zero, List.set_cons_succ]
  refine wpAnyH_ready (rs := [4]) (by kernel_rfl) (by simp) ?_
  refine (AllReadyH.cons (o := { dst := some 38, op := Op.call { callee := Callee.value (Operand.func 19), args := #[Operand.tmp 34, Operand.tmp 37], argTypes := #[27, 27] }, type := 4, pos := "law.go:96", after := #[{ on := 0, ground := Ground.data }, { on := 3, ground := Ground.data }, { on := 3, ground := Ground.chain }], guard := none }) rfl (fun K hK => ?_) AllReadyH.nil)
  rw [if_pos (by rfl)]
  go_simp
  go_at_call 19
  refine (equalV (k := k) (Q := true) (k : Nat) (k : Nat) vL5.out hn5 hk3 (eqQ _ Q5.out) ZL5.out ZL7.out _ _ _ _ _ (Hr2.out.grown hgr3) hrr4).mono ?_
  rintro e wc4 ⟨rfl, gc4⟩
  have hgr4 := World.grownBy.trans hgr3 gc4
  go_wp2_with fail
  refine hK.out _ _ (HS.out _ hgr4) (fun hHeld => ?_)
  clear hK K
  try simp only [Act.put, List.setIfInBounds_toArray, List.set_cons_zero, List.set_cons_succ]
  refine wpAnyH_take (i := 5) (oi := { dst := some 39, op := Op.unOp UnOp.not 4 (Operand.tmp 38), type := 4, pos := "law.go:96", after := #[{ on := 4, ground := Ground.data }], guard := none }) (v := ?_) rfl (by kernel_rfl) (by kernel_rfl) (by kernel_rfl) (fun _ _ _ h => h) (Or.inl ⟨by rfl, ?_⟩) (by assumption) ?_
  rotate_left 1
  · (intro W hSW; (try dsimp only at hSW); first | (go_simp; done) | (go_simp; with_reducible rfl))
  try simp only [Act.put, List.setIfInBounds_toArray, List.set_cons_zero, List.set_cons_succ]
  refine wpAnyH_take (i := 6) (oi := { dst := some 40, op := Op.move (Operand.tmp 39), type := 4, pos := "law.go:96", after := #[{ on := 5, ground := Ground.data }, { on := 4, ground := Ground.chain }], guard := none }) (v := ?_) rfl (by kernel_rfl) (by kernel_rfl) (by kernel_rfl) (fun _ _ _ h => h) (Or.inl ⟨by rfl, ?_⟩) (by assumption) ?_
  rotate_left 1
  · (intro W hSW; (try dsimp only at hSW); first | (go_simp; done) | (go_simp; with_reducible rfl))
  try simp only [Act.put, List.setIfInBounds_toArray, List.set_cons_zero, List.set_cons_succ]
  refine wpAnyH_take (i := 7) (oi := { dst := some 41, op := Op.load 27 (Operand.tmp 11), type := 27, pos := "law.go:96", after := #[{ on := 6, ground := Ground.guard }], guard := some (6, false) }) (v := ?_) rfl (by kernel_rfl) (by kernel_rfl) (by kernel_rfl) (fun _ _ _ h => h) (Or.inl ⟨by rfl, ?_⟩) (by assumption) ?_
  rotate_left 1
  · (intro W hSW; (try dsimp only at hSW); first | (go_simp; done) | (go_simp; with_reducible rfl))
  try simp only [Act.put, List.setIfInBounds_toArray, List.set_cons_zero, List.set_cons_succ]
  refine wpAnyH_take (i := 8) (oi := { dst := some 42, op := Op.load 27 (Operand.tmp 7), type := 27, pos := "law.go:96", after := #[{ on := 6, ground := Ground.guard }], guard := some (6, false) }) (v := ?_) rfl (by kernel_rfl) (by kernel_rfl) (by kernel_rfl) (fun _ _ _ h => h) (Or.inl ⟨by rfl, ?_⟩) (by assumption) ?_
  rotate_left 1
  · (intro W hSW; (try dsimp only at hSW); first | (go_simp; done) | (go_simp; with_reducible rfl))
  try simp only [Act.put, List.setIfInBounds_toArray, List.set_cons_zero, List.set_cons_succ]
  refine wpAnyH_take (i := 9) (oi := { dst := some 43, op := Op.load 27 (Operand.tmp 6), type := 27, pos := "law.go:96", after := #[{ on := 6, ground := Ground.guard }], guard := some (6, false) }) (v := ?_) rfl (by kernel_rfl) (by kernel_rfl) (by kernel_rfl) (fun _ _ _ h => h) (Or.inl ⟨by rfl, ?_⟩) (by assumption) ?_
  rotate_left 1
  · (intro W hSW; (try dsimp only at hSW); first | (go_simp; done) | (go_simp; with_reducible rfl))
  try simp only [Act.put, List.setIfInBounds_toArray, List.set_cons_zero, List.set_cons_succ]
  refine wpAnyH_ready (rs := [10]) (by kernel_rfl) (by simp) ?_
  refine (AllReadyH.cons (o := { dst := some 44, op := Op.call { callee := Callee.value (Operand.func 29), args := #[Operand.tmp 42, Operand.tmp 43], argTypes := #[27, 27] }, type := 27, pos := "law.go:96", after := #[{ on := 8, ground := Ground.data }, { on := 9, ground := Ground.data }, { on := 6, ground := Ground.chain }, { on := 6, ground := Ground.guard }], guard := some (6, false) }) rfl (fun K hK => ?_) AllReadyH.nil)
  rw [if_pos (by rfl)]
  go_simp
  go_at_call 29
  refine (interV (k : Nat) (k : Nat) vL2.out vL1.out hn5 hk3 (by rw [← EL2.out, ← EL1.out]; exact EL8.out) ZL2.out ZL1.out ZL8.out _ _ _ _ _ (Hb.out.grown hgr4) (Ha.out.grown hgr4)).mono ?_
  rintro e wc10 ⟨xr6, yr6, rfl, hrr6, gc10⟩
  have hgr10 := World.grownBy.trans hgr4 gc10
  go_wp2_with fail
  refine hK.out _ _ (HS.out _ hgr10) (fun hHeld => ?_)
  clear hK K
  try simp only [Act.put, List.setIfInBounds_toArray, List.set_cons_zero, List.set_cons_succ]
  refine wpAnyH_ready (rs := [11]) (by kernel_rfl) (by simp) ?_
  refine (AllReadyH.cons (o := { dst := some 45, op := Op.call { callee := Callee.value (Operand.func 19), args := #[Operand.tmp 41, Operand.tmp 44], argTypes := #[27, 27] }, type := 4, pos := "law.go:96", after := #[{ on := 7, ground := Ground.data }, { on := 10, ground := Ground.data }, { on := 10, ground := Ground.chain }, { on := 6, ground := Ground.guard }], guard := some (6, false) }) rfl (fun K hK => ?_) AllReadyH.nil)
  rw [if_pos (by rfl)]
  go_simp
  go_at_call 19
  refine (equalV (k := k) (Q := true) (k : Nat) (k : Nat) vL6.out hn5 hk3 (eqQ _ Q7.out) ZL6.out ZL8.out _ _ _ _ _ (Hr3.out.grown hgr10) hrr6).mono ?_
  rintro e wc11 ⟨rfl, gc11⟩
  have hgr11 := World.grownBy.trans hgr10 gc11
  go_wp2_with fail
  refine hK.out _ _ (HS.out _ hgr11) (fun hHeld => ?_)
  clear hK K
  try simp only [Act.put, List.setIfInBounds_toArray, List.set_cons_zero, List.set_cons_succ]
  refine wpAnyH_take (i := 12) (oi := { dst := some 46, op := Op.unOp UnOp.not 4 (Operand.tmp 45), type := 4, pos := "law.go:96", after := #[{ on := 11, ground := Ground.data }, { on := 6, ground := Ground.guard }], guard := some (6, false) }) (v := ?_) rfl (by kernel_rfl) (by kernel_rfl) (by kernel_rfl) (fun _ _ _ h => h) (Or.inl ⟨by rfl, ?_⟩) (by assumption) ?_
  rotate_left 1
  · (intro W hSW; (try dsimp only at hSW); first | (go_simp; done) | (go_simp; with_reducible rfl))
  try simp only [Act.put, List.setIfInBounds_toArray, List.set_cons_zero, List.set_cons_succ]
  refine wpAnyH_take (i := 13) (oi := { dst := some 47, op := Op.pick (Operand.tmp 40) (Operand.const (Value.bool true)) (Operand.tmp 46), type := 4, pos := "law.go:96", after := #[{ on := 6, ground := Ground.data }, { on := 12, ground := Ground.data }], guard := none }) (v := ?_) rfl (by kernel_rfl) (by kernel_rfl) (by kernel_rfl) (fun _ _ _ h => h) (Or.inl ⟨by rfl, ?_⟩) (by assumption) ?_
  rotate_left 1
  · (intro W hSW; (try dsimp only at hSW); first | (go_simp; done) | (go_simp; with_reducible rfl))
  try simp only [Act.put, List.setIfInBounds_toArray, List.set_cons_zero, List.set_cons_succ]
  refine wpAnyH_done (by kernel_rfl) ?_ _
  have hEND := hgr11
  clear hHeld
  obtain ⟨V13, rfl⟩ : ∃ z, z = wc11 := ⟨_, rfl⟩
  replace Ha := Lib.hid (Ha.out.grown hEND)
  replace Hb := Lib.hid (Hb.out.grown hEND)
  replace Hc := Lib.hid (Hc.out.grown hEND)
  replace Hr1 := Lib.hid (Hr1.out.grown hEND)
  replace Hr2 := Lib.hid (Hr2.out.grown hEND)
  replace Hr3 := Lib.hid (Hr3.out.grown hEND)
  replace HB6 := Lib.hid (And.intro (World.grownBy.cell hEND HB6.out.1 (by simp)) (World.grownBy.cell hEND HB6.out.2 (by simp)))
  replace HB7 := Lib.hid (And.intro (World.grownBy.cell hEND HB7.out.1 (by simp)) (World.grownBy.cell hEND HB7.out.2 (by simp)))
  replace HB8 := Lib.hid (And.intro (World.grownBy.cell hEND HB8.out.1 (by simp)) (World.grownBy.cell hEND HB8.out.2 (by simp)))
  replace HB9 := Lib.hid (And.intro (World.grownBy.cell hEND HB9.out.1 (by simp)) (World.grownBy.cell hEND HB9.out.2 (by simp)))
  replace HB10 := Lib.hid (And.intro (World.grownBy.cell hEND HB10.out.1 (by simp)) (World.grownBy.cell hEND HB10.out.2 (by simp)))
  replace HB11 := Lib.hid (And.intro (World.grownBy.cell hEND HB11.out.1 (by simp)) (World.grownBy.cell hEND HB11.out.2 (by simp)))
  replace HG := Lib.hid (World.grownBy.trans HG.out hEND)
  clear hEND HS hrr4 hrr6 hdr hgr3 hgr4 hgr10 hgr11 gc3 gc4 gc10 gc11
  have qB60 := HB6.out.1
  have qB61 := HB6.out.2
  have qB70 := HB7.out.1
  have qB71 := HB7.out.2
  have qB80 := HB8.out.1
  have qB81 := HB8.out.2
  have qB90 := HB9.out.1
  have qB91 := HB9.out.2
  have qB100 := HB10.out.1
  have qB101 := HB10.out.2
  have qB110 := HB11.out.1
  have qB111 := HB11.out.2
  go_upto_region 11 with fail
  clear qB60 qB61 qB70 qB71 qB80 qB81 qB90 qB91 qB100 qB101 qB110 qB111
  have HS := Lib.hid (fun (Wh : World) (hWh : V13.grownBy Wh none) => (⟨hWh, hWh.cell HB6.out.1 (by simp), hWh.cell HB6.out.2 (by simp), hWh.cell HB7.out.1 (by simp), hWh.cell HB7.out.2 (by simp), hWh.cell HB8.out.1 (by simp), hWh.cell HB8.out.2 (by simp), hWh.cell HB9.out.1 (by simp), hWh.cell HB9.out.2 (by simp), hWh.cell HB10.out.1 (by simp), hWh.cell HB10.out.2 (by simp), hWh.cell HB11.out.1 (by simp), hWh.cell HB11.out.2 (by simp)⟩ : (fun Wh : World => V13.grownBy Wh none ∧ Wh.cell? ⟨bB6, 0, none⟩ = some (.int .i64 (k : Nat)) ∧ Wh.cell? ⟨bB6, 1, none⟩ = some (.slice xa lL1 ya) ∧ Wh.cell? ⟨bB7, 0, none⟩ = some (.int .i64 (k : Nat)) ∧ Wh.cell? ⟨bB7, 1, none⟩ = some (.slice xb lL2 yb) ∧ Wh.cell? ⟨bB8, 0, none⟩ = some (.int .i64 (k : Nat)) ∧ Wh.cell? ⟨bB8, 1, none⟩ = some (.slice xc lL3 yc) ∧ Wh.cell? ⟨bB9, 0, none⟩ = some (.int .i64 (k : Nat)) ∧ Wh.cell? ⟨bB9, 1, none⟩ = some (.slice xr1 lL4 yr1) ∧ Wh.cell? ⟨bB10, 0, none⟩ = some (.int .i64 (k : Nat)) ∧ Wh.cell? ⟨bB10, 1, none⟩ = some (.slice xr2 lL5 yr2) ∧ Wh.cell? ⟨bB11, 0, none⟩ = some (.int .i64 (k : Nat)) ∧ Wh.cell? ⟨bB11, 1, none⟩ = some (.slice xr3 lL6 yr3)) Wh))
  have hdr : V13.grownBy V13.drew none := ⟨rfl, rfl, rfl, Nat.le_refl _, fun _ _ _ => rfl⟩
  refine wp_region_held_drew (S := (fun Wh : World => V13.grownBy Wh none ∧ Wh.cell? ⟨bB6, 0, none⟩ = some (.int .i64 (k : Nat)) ∧ Wh.cell? ⟨bB6, 1, none⟩ = some (.slice xa lL1 ya) ∧ Wh.cell? ⟨bB7, 0, none⟩ = some (.int .i64 (k : Nat)) ∧ Wh.cell? ⟨bB7, 1, none⟩ = some (.slice xb lL2 yb) ∧ Wh.cell? ⟨bB8, 0, none⟩ = some (.int .i64 (k : Nat)) ∧ Wh.cell? ⟨bB8, 1, none⟩ = some (.slice xc lL3 yc) ∧ Wh.cell? ⟨bB9, 0, none⟩ = some (.int .i64 (k : Nat)) ∧ Wh.cell? ⟨bB9, 1, none⟩ = some (.slice xr1 lL4 yr1) ∧ Wh.cell? ⟨bB10, 0, none⟩ = some (.int .i64 (k : Nat)) ∧ Wh.cell? ⟨bB10, 1, none⟩ = some (.slice xr2 lL5 yr2) ∧ Wh.cell? ⟨bB11, 0, none⟩ = some (.int .i64 (k : Nat)) ∧ Wh.cell? ⟨bB11, 1, none⟩ = some (.slice xr3 lL6 yr3))) (by kernel_rfl) (HS.out _ hdr) (fun hHeld => ?_)
  refine wpAnyH_take (i := 0) (oi := { dst := some 48, op := Op.load 27 (Operand.tmp 10), type := 27, pos := "law.go:99", after := #[], guard := none }) (v := ?_) rfl (by kernel_rfl) (by kernel_rfl) (by kernel_rfl) (fun _ _ _ h => h) (Or.inl ⟨by rfl, ?_⟩) (by assumption) ?_
  rotate_left 1
  · (intro W hSW; (try dsimp only at hSW); first | (go_simp; done) | (go_simp; with_reducible rfl))
  try simp only [Act.put, List.setIfInBounds_toArray, List.set_cons_zero, List.set_cons_succ]
  refine wpAnyH_take (i := 1) (oi := { dst := some 49, op := Op.load 27 (Operand.tmp 8), type := 27, pos := "law.go:99", after := #[], guard := none }) (v := ?_) rfl (by kernel_rfl) (by kernel_rfl) (by kernel_rfl) (fun _ _ _ h => h) (Or.inl ⟨by rfl, ?_⟩) (by assumption) ?_
  rotate_left 1
  · (intro W hSW; (try dsimp only at hSW); first | (go_simp; done) | (go_simp; with_reducible rfl))
  try simp only [Act.put, List.setIfInBounds_toArray, List.set_cons_zero, List.set_cons_succ]
  refine wpAnyH_take (i := 3) (oi := { dst := some 51, op := Op.load 27 (Operand.tmp 6), type := 27, pos := "law.go:99", after := #[], guard := none }) (v := ?_) rfl (by kernel_rfl) (by kernel_rfl) (by kernel_rfl) (fun _ _ _ h => h) (Or.inl ⟨by rfl, ?_⟩) (by assumption) ?_
  rotate_left 1
  · (intro W hSW; (try dsimp only at hSW); first | (go_simp; done) | (go_simp; with_reducible rfl))
  try simp only [Act.put, List.setIfInBounds_toArray, List.set_cons_zero, List.set_cons_succ]
  refine wpAnyH_take (i := 4) (oi := { dst := some 52, op := Op.load 27 (Operand.tmp 7), type := 27, pos := "law.go:99", after := #[], guard := none }) (v := ?_) rfl (by kernel_rfl) (by kernel_rfl) (by kernel_rfl) (fun _ _ _ h => h) (Or.inl ⟨by rfl, ?_⟩) (by assumption) ?_
  rotate_left 1
  · (intro W hSW; (try dsimp only at hSW); first | (go_simp; done) | (go_simp; with_reducible rfl))
  try simp only [Act.put, List.setIfInBounds_toArray, List.set_cons_zero, List.set_cons_succ]
  refine wpAnyH_take (i := 5) (oi := { dst := some 53, op := Op.load 27 (Operand.tmp 8), type := 27, pos := "law.go:99", after := #[], guard := none }) (v := ?_) rfl (by kernel_rfl) (by kernel_rfl) (by kernel_rfl) (fun _ _ _ h => h) (Or.inl ⟨by rfl, ?_⟩) (by assumption) ?_
  rotate_left 1
  · (intro W hSW; (try dsimp only at hSW); first | (go_simp; done) | (go_simp; with_reducible rfl))
  try simp only [Act.put, List.setIfInBounds_toArray, List.set_cons_zero, List.set_cons_succ]
  refine wpAnyH_ready (rs := [2]) (by kernel_rfl) (by simp) ?_
  refine (AllReadyH.cons (o := { dst := some 50, op := Op.call { callee := Callee.value (Operand.func 27), args := #[Operand.tmp 48, Operand.tmp 49], argTypes := #[27, 27] }, type := 27, pos := "law.go:99", after := #[{ on := 0, ground := Ground.data }, { on := 1, ground := Ground.data }], guard := none }) rfl (fun K hK => ?_) AllReadyH.nil)
  rw [if_pos (by rfl)]
  go_simp
  go_at_call 27
  refine (unionV (k : Nat) (k : Nat) vL5.out vL3.out hn5 hk3 (by rw [← EL5.out, ← EL3.out]; exact EL9.out) ZL5.out ZL3.out ZL9.out _ _ _ _ _ (Hr2.out.grown hdr) (Hc.out.grown hdr)).mono ?_
  rintro e wc2 ⟨xr8, yr8, rfl, hrr8, gc2⟩
  have hgr2 := World.grownBy.trans hdr gc2
  go_wp2_with fail
  refine hK.out _ _ (HS.out _ hgr2) (fun hHeld => ?_)
  clear hK K
  try simp only [Act.put, List.setIfInBounds_toArray, List.set_cons_zero, List.set_cons_succ]
  refine wpAnyH_ready (rs := [6]) (by kernel_rfl) (by simp) ?_
  refine (AllReadyH.cons (o := { dst := some 54, op := Op.call { callee := Callee.value (Operand.func 27), args := #[Operand.tmp 52, Operand.tmp 53], argTypes := #[27, 27] }, type := 27, pos := "law.go:99", after := #[{ on := 4, ground := Ground.data }, { on := 5, ground := Ground.data }, { on := 2, ground := Ground.chain }], guard := none }) rfl (fun K hK => ?_) AllReadyH.nil)
  rw [if_pos (by rfl)]
  go_simp
  go_at_call 27
  refine (unionV (k : Nat) (k : Nat) vL2.out vL3.out hn5 hk3 (by rw [← EL2.out, ← EL3.out]; exact EL10.out) ZL2.out ZL3.out ZL10.out _ _ _ _ _ (Hb.out.grown hgr2) (Hc.out.grown hgr2)).mono ?_
  rintro e wc6 ⟨xr9, yr9, rfl, hrr9, gc6⟩
  have hgr6 := World.grownBy.trans hgr2 gc6
  go_wp2_with fail
  refine hK.out _ _ (HS.out _ hgr6) (fun hHeld => ?_)
  clear hK K
  try simp only [Act.put, List.setIfInBounds_toArray, List.set_cons_zero, List.set_cons_succ]
  refine wpAnyH_ready (rs := [7]) (by kernel_rfl) (by simp) ?_
  refine (AllReadyH.cons (o := { dst := some 55, op := Op.call { callee := Callee.value (Operand.func 27), args := #[Operand.tmp 51, Operand.tmp 54], argTypes := #[27, 27] }, type := 27, pos := "law.go:99", after := #[{ on := 3, ground := Ground.data }, { on := 6, ground := Ground.data }, { on := 6, ground := Ground.chain }], guard := none }) rfl (fun K hK => ?_) AllReadyH.nil)
  rw [if_pos (by rfl)]
  go_simp
  go_at_call 27
  refine (unionV (k : Nat) (k : Nat) vL1.out vL10.out hn5 hk3 (by rw [← EL1.out, ← EL10.out]; exact EL11.out) ZL1.out ZL10.out ZL11.out _ _ _ _ _ (Ha.out.grown hgr6) hrr9).mono ?_
  rintro e wc7 ⟨xr10, yr10, rfl, hrr10, gc7⟩
  have hgr7 := World.grownBy.trans hgr6 gc7
  go_wp2_with fail
  refine hK.out _ _ (HS.out _ hgr7) (fun hHeld => ?_)
  clear hK K
  try simp only [Act.put, List.setIfInBounds_toArray, List.set_cons_zero, List.set_cons_succ]
  refine wpAnyH_ready (rs := [8]) (by kernel_rfl) (by simp) ?_
  refine (AllReadyH.cons (o := { dst := some 56, op := Op.call { callee := Callee.value (Operand.func 19), args := #[Operand.tmp 50, Operand.tmp 55], argTypes := #[27, 27] }, type := 4, pos := "law.go:99", after := #[{ on := 2, ground := Ground.data }, { on := 7, ground := Ground.data }, { on := 7, ground := Ground.chain }], guard := none }) rfl (fun K hK => ?_) AllReadyH.nil)
  rw [if_pos (by rfl)]
  go_simp
  go_at_call 19
  refine (equalV (k := k) (Q := true) (k : Nat) (k : Nat) vL9.out hn5 hk3 (eqQ _ Q11.out) ZL9.out ZL11.out _ _ _ _ _ (hrr8.grown (World.grownBy.trans gc6 gc7)) hrr10).mono ?_
  rintro e wc8 ⟨rfl, gc8⟩
  have hgr8 := World.grownBy.trans hgr7 gc8
  go_wp2_with fail
  refine hK.out _ _ (HS.out _ hgr8) (fun hHeld => ?_)
  clear hK K
  try simp only [Act.put, List.setIfInBounds_toArray, List.set_cons_zero, List.set_cons_succ]
  refine wpAnyH_take (i := 9) (oi := { dst := some 57, op := Op.unOp UnOp.not 4 (Operand.tmp 56), type := 4, pos := "law.go:99", after := #[{ on := 8, ground := Ground.data }], guard := none }) (v := ?_) rfl (by kernel_rfl) (by kernel_rfl) (by kernel_rfl) (fun _ _ _ h => h) (Or.inl ⟨by rfl, ?_⟩) (by assumption) ?_
  rotate_left 1
  · (intro W hSW; (try dsimp only at hSW); first | (go_simp; done) | (go_simp; with_reducible rfl))
  try simp only [Act.put, List.setIfInBounds_toArray, List.set_cons_zero, List.set_cons_succ]
  refine wpAnyH_take (i := 10) (oi := { dst := some 58, op := Op.move (Operand.tmp 57), type := 4, pos := "law.go:99", after := #[{ on := 9, ground := Ground.data }, { on := 8, ground := Ground.chain }], guard := none }) (v := ?_) rfl (by kernel_rfl) (by kernel_rfl) (by kernel_rfl) (fun _ _ _ h => h) (Or.inl ⟨by rfl, ?_⟩) (by assumption) ?_
  rotate_left 1
  · (intro W hSW; (try dsimp only at hSW); first | (go_simp; done) | (go_simp; with_reducible rfl))
  try simp only [Act.put, List.setIfInBounds_toArray, List.set_cons_zero, List.set_cons_succ]
  refine wpAnyH_take (i := 11) (oi := { dst := some 59, op := Op.load 27 (Operand.tmp 11), type := 27, pos := "law.go:99", after := #[{ on := 10, ground := Ground.guard }], guard := some (10, false) }) (v := ?_) rfl (by kernel_rfl) (by kernel_rfl) (by kernel_rfl) (fun _ _ _ h => h) (Or.inl ⟨by rfl, ?_⟩) (by assumption) ?_
  rotate_left 1
  · (intro W hSW; (try dsimp only at hSW); first | (go_simp; done) | (go_simp; with_reducible rfl))
  try simp only [Act.put, List.setIfInBounds_toArray, List.set_cons_zero, List.set_cons_succ]
  refine wpAnyH_take (i := 12) (oi := { dst := some 60, op := Op.load 27 (Operand.tmp 8), type := 27, pos := "law.go:99", after := #[{ on := 10, ground := Ground.guard }], guard := some (10, false) }) (v := ?_) rfl (by kernel_rfl) (by kernel_rfl) (by kernel_rfl) (fun _ _ _ h => h) (Or.inl ⟨by rfl, ?_⟩) (by assumption) ?_
  rotate_left 1
  · (intro W hSW; (try dsimp only at hSW); first | (go_simp; done) | (go_simp; with_reducible rfl))
  try simp only [Act.put, List.setIfInBounds_toArray, List.set_cons_zero, List.set_cons_succ]
  refine wpAnyH_take (i := 14) (oi := { dst := some 62, op := Op.load 27 (Operand.tmp 6), type := 27, pos := "law.go:99", after := #[{ on := 10, ground := Ground.guard }], guard := some (10, false) }) (v := ?_) rfl (by kernel_rfl) (by kernel_rfl) (by kernel_rfl) (fun _ _ _ h => h) (Or.inl ⟨by rfl, ?_⟩) (by assumption) ?_
  rotate_left 1
  · (intro W hSW; (try dsimp only at hSW); first | (go_simp; done) | (go_simp; with_reducible rfl))
  try simp only [Act.put, List.setIfInBounds_toArray, List.set_cons_zero, List.set_cons_succ]
  refine wpAnyH_take (i := 15) (oi := { dst := some 63, op := Op.load 27 (Operand.tmp 7), type := 27, pos := "law.go:99", after := #[{ on := 10, ground := Ground.guard }], guard := some (10, false) }) (v := ?_) rfl (by kernel_rfl) (by kernel_rfl) (by kernel_rfl) (fun _ _ _ h => h) (Or.inl ⟨by rfl, ?_⟩) (by assumption) ?_
  rotate_left 1
  · (intro W hSW; (try dsimp only at hSW); first | (go_simp; done) | (go_simp; with_reducible rfl))
  try simp only [Act.put, List.setIfInBounds_toArray, List.set_cons_zero, List.set_cons_succ]
  refine wpAnyH_take (i := 16) (oi := { dst := some 64, op := Op.load 27 (Operand.tmp 8), type := 27, pos := "law.go:99", after := #[{ on := 10, ground := Ground.guard }], guard := some (10, false) }) (v := ?_) rfl (by kernel_rfl) (by kernel_rfl) (by kernel_rfl) (fun _ _ _ h => h) (Or.inl ⟨by rfl, ?_⟩) (by assumption) ?_
  rotate_left 1
  · (intro W hSW; (try dsimp only at hSW); first | (go_simp; done) | (go_simp; with_reducible rfl))
  try simp only [Act.put, List.setIfInBounds_toArray, List.set_cons_zero, List.set_cons_succ]
  refine wpAnyH_ready (rs := [13]) (by kernel_rfl) (by simp) ?_
  refine (AllReadyH.cons (o := { dst := some 61, op := Op.call { callee := Callee.value (Operand.func 29), args := #[Operand.tmp 59, Operand.tmp 60], argTypes := #[27, 27] }, type := 27, pos := "law.go:99", after := #[{ on := 11, ground := Ground.data }, { on := 12, ground := Ground.data }, { on := 10, ground := Ground.chain }, { on := 10, ground := Ground.guard }], guard := some (10, false) }) rfl (fun K hK => ?_) AllReadyH.nil)
  rw [if_pos (by rfl)]
  go_simp
  go_at_call 29
  refine (interV (k : Nat) (k : Nat) vL6.out vL3.out hn5 hk3 (by rw [← EL6.out, ← EL3.out]; exact EL12.out) ZL6.out ZL3.out ZL12.out _ _ _ _ _ (Hr3.out.grown hgr8) (Hc.out.grown hgr8)).mono ?_
  rintro e wc13 ⟨xr12, yr12, rfl, hrr12, gc13⟩
  have hgr13 := World.grownBy.trans hgr8 gc13
  go_wp2_with fail
  refine hK.out _ _ (HS.out _ hgr13) (fun hHeld => ?_)
  clear hK K
  try simp only [Act.put, List.setIfInBounds_toArray, List.set_cons_zero, List.set_cons_succ]
  refine wpAnyH_ready (rs := [17]) (by kernel_rfl) (by simp) ?_
  refine (AllReadyH.cons (o := { dst := some 65, op := Op.call { callee := Callee.value (Operand.func 29), args := #[Operand.tmp 63, Operand.tmp 64], argTypes := #[27, 27] }, type := 27, pos := "law.go:99", after := #[{ on := 15, ground := Ground.data }, { on := 16, ground := Ground.data }, { on := 13, ground := Ground.chain }, { on := 10, ground := Ground.guard }], guard := some (10, false) }) rfl (fun K hK => ?_) AllReadyH.nil)
  rw [if_pos (by rfl)]
  go_simp
  go_at_call 29
  refine (interV (k : Nat) (k : Nat) vL2.out vL3.out hn5 hk3 (by rw [← EL2.out, ← EL3.out]; exact EL13.out) ZL2.out ZL3.out ZL13.out _ _ _ _ _ (Hb.out.grown hgr13) (Hc.out.grown hgr13)).mono ?_
  rintro e wc17 ⟨xr13, yr13, rfl, hrr13, gc17⟩
  have hgr17 := World.grownBy.trans hgr13 gc17
  go_wp2_with fail
  refine hK.out _ _ (HS.out _ hgr17) (fun hHeld => ?_)
  clear hK K
  try simp only [Act.put, List.setIfInBounds_toArray, List.set_cons_zero, List.set_cons_succ]
  refine wpAnyH_ready (rs := [18]) (by kernel_rfl) (by simp) ?_
  refine (AllReadyH.cons (o := { dst := some 66, op := Op.call { callee := Callee.value (Operand.func 29), args := #[Operand.tmp 62, Operand.tmp 65], argTypes := #[27, 27] }, type := 27, pos := "law.go:99", after := #[{ on := 14, ground := Ground.data }, { on := 17, ground := Ground.data }, { on := 17, ground := Ground.chain }, { on := 10, ground := Ground.guard }], guard := some (10, false) }) rfl (fun K hK => ?_) AllReadyH.nil)
  rw [if_pos (by rfl)]
  go_simp
  go_at_call 29
  refine (interV (k : Nat) (k : Nat) vL1.out vL13.out hn5 hk3 (by rw [← EL1.out, ← EL13.out]; exact EL14.out) ZL1.out ZL13.out ZL14.out _ _ _ _ _ (Ha.out.grown hgr17) hrr13).mono ?_
  rintro e wc18 ⟨xr14, yr14, rfl, hrr14, gc18⟩
  have hgr18 := World.grownBy.trans hgr17 gc18
  go_wp2_with fail
  refine hK.out _ _ (HS.out _ hgr18) (fun hHeld => ?_)
  clear hK K
  try simp only [Act.put, List.setIfInBounds_toArray, List.set_cons_zero, List.set_cons_succ]
  refine wpAnyH_ready (rs := [19]) (by kernel_rfl) (by simp) ?_
  refine (AllReadyH.cons (o := { dst := some 67, op := Op.call { callee := Callee.value (Operand.func 19), args := #[Operand.tmp 61, Operand.tmp 66], argTypes := #[27, 27] }, type := 4, pos := "law.go:99", after := #[{ on := 13, ground := Ground.data }, { on := 18, ground := Ground.data }, { on := 18, ground := Ground.chain }, { on := 10, ground := Ground.guard }], guard := some (10, false) }) rfl (fun K hK => ?_) AllReadyH.nil)
  rw [if_pos (by rfl)]
  go_simp
  go_at_call 19
  refine (equalV (k := k) (Q := true) (k : Nat) (k : Nat) vL12.out hn5 hk3 (eqQ _ Q15.out) ZL12.out ZL14.out _ _ _ _ _ (hrr12.grown (World.grownBy.trans gc17 gc18)) hrr14).mono ?_
  rintro e wc19 ⟨rfl, gc19⟩
  have hgr19 := World.grownBy.trans hgr18 gc19
  go_wp2_with fail
  refine hK.out _ _ (HS.out _ hgr19) (fun hHeld => ?_)
  clear hK K
  try simp only [Act.put, List.setIfInBounds_toArray, List.set_cons_zero, List.set_cons_succ]
  refine wpAnyH_take (i := 20) (oi := { dst := some 68, op := Op.unOp UnOp.not 4 (Operand.tmp 67), type := 4, pos := "law.go:99", after := #[{ on := 19, ground := Ground.data }, { on := 10, ground := Ground.guard }], guard := some (10, false) }) (v := ?_) rfl (by kernel_rfl) (by kernel_rfl) (by kernel_rfl) (fun _ _ _ h => h) (Or.inl ⟨by rfl, ?_⟩) (by assumption) ?_
  rotate_left 1
  · (intro W hSW; (try dsimp only at hSW); first | (go_simp; done) | (go_simp; with_reducible rfl))
  try simp only [Act.put, List.setIfInBounds_toArray, List.set_cons_zero, List.set_cons_succ]
  refine wpAnyH_take (i := 21) (oi := { dst := some 69, op := Op.pick (Operand.tmp 58) (Operand.const (Value.bool true)) (Operand.tmp 68), type := 4, pos := "law.go:99", after := #[{ on := 10, ground := Ground.data }, { on := 20, ground := Ground.data }], guard := none }) (v := ?_) rfl (by kernel_rfl) (by kernel_rfl) (by kernel_rfl) (fun _ _ _ h => h) (Or.inl ⟨by rfl, ?_⟩) (by assumption) ?_
  rotate_left 1
  · (intro W hSW; (try dsimp only at hSW); first | (go_simp; done) | (go_simp; with_reducible rfl))
  try simp only [Act.put, List.setIfInBounds_toArray, List.set_cons_zero, List.set_cons_succ]
  refine wpAnyH_done (by kernel_rfl) ?_ _
  have hEND := hgr19
  clear hHeld
  obtain ⟨V14, rfl⟩ : ∃ z, z = wc19 := ⟨_, rfl⟩
  replace Ha := Lib.hid (Ha.out.grown hEND)
  replace Hb := Lib.hid (Hb.out.grown hEND)
  replace Hc := Lib.hid (Hc.out.grown hEND)
  replace Hr1 := Lib.hid (Hr1.out.grown hEND)
  replace Hr2 := Lib.hid (Hr2.out.grown hEND)
  replace Hr3 := Lib.hid (Hr3.out.grown hEND)
  replace HB6 := Lib.hid (And.intro (World.grownBy.cell hEND HB6.out.1 (by simp)) (World.grownBy.cell hEND HB6.out.2 (by simp)))
  replace HB7 := Lib.hid (And.intro (World.grownBy.cell hEND HB7.out.1 (by simp)) (World.grownBy.cell hEND HB7.out.2 (by simp)))
  replace HB8 := Lib.hid (And.intro (World.grownBy.cell hEND HB8.out.1 (by simp)) (World.grownBy.cell hEND HB8.out.2 (by simp)))
  replace HB9 := Lib.hid (And.intro (World.grownBy.cell hEND HB9.out.1 (by simp)) (World.grownBy.cell hEND HB9.out.2 (by simp)))
  replace HB10 := Lib.hid (And.intro (World.grownBy.cell hEND HB10.out.1 (by simp)) (World.grownBy.cell hEND HB10.out.2 (by simp)))
  replace HB11 := Lib.hid (And.intro (World.grownBy.cell hEND HB11.out.1 (by simp)) (World.grownBy.cell hEND HB11.out.2 (by simp)))
  replace HG := Lib.hid (World.grownBy.trans HG.out hEND)
  clear hEND HS hrr8 hrr9 hrr10 hrr12 hrr13 hrr14 hdr hgr2 hgr6 hgr7 hgr8 hgr13 hgr17 hgr18 hgr19 gc2 gc6 gc7 gc8 gc13 gc17 gc18 gc19
  have qB60 := HB6.out.1
  have qB61 := HB6.out.2
  have qB70 := HB7.out.1
  have qB71 := HB7.out.2
  have qB80 := HB8.out.1
  have qB81 := HB8.out.2
  have qB90 := HB9.out.1
  have qB91 := HB9.out.2
  have qB100 := HB10.out.1
  have qB101 := HB10.out.2
  have qB110 := HB11.out.1
  have qB111 := HB11.out.2
  go_upto_region 13 with fail
  clear qB60 qB61 qB70 qB71 qB80 qB81 qB90 qB91 qB100 qB101 qB110 qB111
  have HS := Lib.hid (fun (Wh : World) (hWh : V14.grownBy Wh none) => (⟨hWh, hWh.cell HB6.out.1 (by simp), hWh.cell HB6.out.2 (by simp), hWh.cell HB7.out.1 (by simp), hWh.cell HB7.out.2 (by simp), hWh.cell HB8.out.1 (by simp), hWh.cell HB8.out.2 (by simp), hWh.cell HB9.out.1 (by simp), hWh.cell HB9.out.2 (by simp), hWh.cell HB10.out.1 (by simp), hWh.cell HB10.out.2 (by simp), hWh.cell HB11.out.1 (by simp), hWh.cell HB11.out.2 (by simp)⟩ : (fun Wh : World => V14.grownBy Wh none ∧ Wh.cell? ⟨bB6, 0, none⟩ = some (.int .i64 (k : Nat)) ∧ Wh.cell? ⟨bB6, 1, none⟩ = some (.slice xa lL1 ya) ∧ Wh.cell? ⟨bB7, 0, none⟩ = some (.int .i64 (k : Nat)) ∧ Wh.cell? ⟨bB7, 1, none⟩ = some (.slice xb lL2 yb) ∧ Wh.cell? ⟨bB8, 0, none⟩ = some (.int .i64 (k : Nat)) ∧ Wh.cell? ⟨bB8, 1, none⟩ = some (.slice xc lL3 yc) ∧ Wh.cell? ⟨bB9, 0, none⟩ = some (.int .i64 (k : Nat)) ∧ Wh.cell? ⟨bB9, 1, none⟩ = some (.slice xr1 lL4 yr1) ∧ Wh.cell? ⟨bB10, 0, none⟩ = some (.int .i64 (k : Nat)) ∧ Wh.cell? ⟨bB10, 1, none⟩ = some (.slice xr2 lL5 yr2) ∧ Wh.cell? ⟨bB11, 0, none⟩ = some (.int .i64 (k : Nat)) ∧ Wh.cell? ⟨bB11, 1, none⟩ = some (.slice xr3 lL6 yr3)) Wh))
  have hdr : V14.grownBy V14.drew none := ⟨rfl, rfl, rfl, Nat.le_refl _, fun _ _ _ => rfl⟩
  refine wp_region_held_drew (S := (fun Wh : World => V14.grownBy Wh none ∧ Wh.cell? ⟨bB6, 0, none⟩ = some (.int .i64 (k : Nat)) ∧ Wh.cell? ⟨bB6, 1, none⟩ = some (.slice xa lL1 ya) ∧ Wh.cell? ⟨bB7, 0, none⟩ = some (.int .i64 (k : Nat)) ∧ Wh.cell? ⟨bB7, 1, none⟩ = some (.slice xb lL2 yb) ∧ Wh.cell? ⟨bB8, 0, none⟩ = some (.int .i64 (k : Nat)) ∧ Wh.cell? ⟨bB8, 1, none⟩ = some (.slice xc lL3 yc) ∧ Wh.cell? ⟨bB9, 0, none⟩ = some (.int .i64 (k : Nat)) ∧ Wh.cell? ⟨bB9, 1, none⟩ = some (.slice xr1 lL4 yr1) ∧ Wh.cell? ⟨bB10, 0, none⟩ = some (.int .i64 (k : Nat)) ∧ Wh.cell? ⟨bB10, 1, none⟩ = some (.slice xr2 lL5 yr2) ∧ Wh.cell? ⟨bB11, 0, none⟩ = some (.int .i64 (k : Nat)) ∧ Wh.cell? ⟨bB11, 1, none⟩ = some (.slice xr3 lL6 yr3))) (by kernel_rfl) (HS.out _ hdr) (fun hHeld => ?_)
  refine wpAnyH_take (i := 0) (oi := { dst := some 70, op := Op.load 27 (Operand.tmp 6), type := 27, pos := "law.go:102", after := #[], guard := none }) (v := ?_) rfl (by kernel_rfl) (by kernel_rfl) (by kernel_rfl) (fun _ _ _ h => h) (Or.inl ⟨by rfl, ?_⟩) (by assumption) ?_
  rotate_left 1
  · (intro W hSW; (try dsimp only at hSW); first | (go_simp; done) | (go_simp; with_reducible rfl))
  try simp only [Act.put, List.setIfInBounds_toArray, List.set_cons_zero, List.set_cons_succ]
  refine wpAnyH_take (i := 1) (oi := { dst := some 71, op := Op.load 27 (Operand.tmp 7), type := 27, pos := "law.go:102", after := #[], guard := none }) (v := ?_) rfl (by kernel_rfl) (by kernel_rfl) (by kernel_rfl) (fun _ _ _ h => h) (Or.inl ⟨by rfl, ?_⟩) (by assumption) ?_
  rotate_left 1
  · (intro W hSW; (try dsimp only at hSW); first | (go_simp; done) | (go_simp; with_reducible rfl))
  try simp only [Act.put, List.setIfInBounds_toArray, List.set_cons_zero, List.set_cons_succ]
  refine wpAnyH_take (i := 2) (oi := { dst := some 72, op := Op.load 27 (Operand.tmp 8), type := 27, pos := "law.go:102", after := #[], guard := none }) (v := ?_) rfl (by kernel_rfl) (by kernel_rfl) (by kernel_rfl) (fun _ _ _ h => h) (Or.inl ⟨by rfl, ?_⟩) (by assumption) ?_
  rotate_left 1
  · (intro W hSW; (try dsimp only at hSW); first | (go_simp; done) | (go_simp; with_reducible rfl))
  try simp only [Act.put, List.setIfInBounds_toArray, List.set_cons_zero, List.set_cons_succ]
  refine wpAnyH_take (i := 5) (oi := { dst := some 75, op := Op.load 27 (Operand.tmp 11), type := 27, pos := "law.go:102", after := #[], guard := none }) (v := ?_) rfl (by kernel_rfl) (by kernel_rfl) (by kernel_rfl) (fun _ _ _ h => h) (Or.inl ⟨by rfl, ?_⟩) (by assumption) ?_
  rotate_left 1
  · (intro W hSW; (try dsimp only at hSW); first | (go_simp; done) | (go_simp; with_reducible rfl))
  try simp only [Act.put, List.setIfInBounds_toArray, List.set_cons_zero, List.set_cons_succ]
  refine wpAnyH_take (i := 6) (oi := { dst := some 76, op := Op.load 27 (Operand.tmp 6), type := 27, pos := "law.go:102", after := #[], guard := none }) (v := ?_) rfl (by kernel_rfl) (by kernel_rfl) (by kernel_rfl) (fun _ _ _ h => h) (Or.inl ⟨by rfl, ?_⟩) (by assumption) ?_
  rotate_left 1
  · (intro W hSW; (try dsimp only at hSW); first | (go_simp; done) | (go_simp; with_reducible rfl))
  try simp only [Act.put, List.setIfInBounds_toArray, List.set_cons_zero, List.set_cons_succ]
  refine wpAnyH_take (i := 7) (oi := { dst := some 77, op := Op.load 27 (Operand.tmp 8), type := 27, pos := "law.go:102", after := #[], guard := none }) (v := ?_) rfl (by kernel_rfl) (by kernel_rfl) (by kernel_rfl) (fun _ _ _ h => h) (Or.inl ⟨by rfl, ?_⟩) (by assumption) ?_
  rotate_left 1
  · (intro W hSW; (try dsimp only at hSW); first | (go_simp; done) | (go_simp; with_reducible rfl))
  try simp only [Act.put, List.setIfInBounds_toArray, List.set_cons_zero, List.set_cons_succ]
  refine wpAnyH_ready (rs := [3]) (by kernel_rfl) (by simp) ?_
  refine (AllReadyH.cons (o := { dst := some 73, op := Op.call { callee := Callee.value (Operand.func 27), args := #[Operand.tmp 71, Operand.tmp 72], argTypes := #[27, 27] }, type := 27, pos := "law.go:102", after := #[{ on := 1, ground := Ground.data }, { on := 2, ground := Ground.data }], guard := none }) rfl (fun K hK => ?_) AllReadyH.nil)
  rw [if_pos (by rfl)]
  go_simp
  go_at_call 27
  refine (unionV (k : Nat) (k : Nat) vL2.out vL3.out hn5 hk3 (by rw [← EL2.out, ← EL3.out]; exact EL10.out) ZL2.out ZL3.out ZL10.out _ _ _ _ _ (Hb.out.grown hdr) (Hc.out.grown hdr)).mono ?_
  rintro e wc3 ⟨xr16, yr16, rfl, hrr16, gc3⟩
  have hgr3 := World.grownBy.trans hdr gc3
  go_wp2_with fail
  refine hK.out _ _ (HS.out _ hgr3) (fun hHeld => ?_)
  clear hK K
  try simp only [Act.put, List.setIfInBounds_toArray, List.set_cons_zero, List.set_cons_succ]
  refine wpAnyH_ready (rs := [4]) (by kernel_rfl) (by simp) ?_
  refine (AllReadyH.cons (o := { dst := some 74, op := Op.call { callee := Callee.value (Operand.func 29), args := #[Operand.tmp 70, Operand.tmp 73], argTypes := #[27, 27] }, type := 27, pos := "law.go:102", after := #[{ on := 0, ground := Ground.data }, { on := 3, ground := Ground.data }, { on := 3, ground := Ground.chain }], guard := none }) rfl (fun K hK => ?_) AllReadyH.nil)
  rw [if_pos (by rfl)]
  go_simp
  go_at_call 29
  refine (interV (k : Nat) (k : Nat) vL1.out vL10.out hn5 hk3 (by rw [← EL1.out, ← EL10.out]; exact EL15.out) ZL1.out ZL10.out ZL15.out _ _ _ _ _ (Ha.out.grown hgr3) hrr16).mono ?_
  rintro e wc4 ⟨xr17, yr17, rfl, hrr17, gc4⟩
  have hgr4 := World.grownBy.trans hgr3 gc4
  go_wp2_with fail
  refine hK.out _ _ (HS.out _ hgr4) (fun hHeld => ?_)
  clear hK K
  try simp only [Act.put, List.setIfInBounds_toArray, List.set_cons_zero, List.set_cons_succ]
  refine wpAnyH_ready (rs := [8]) (by kernel_rfl) (by simp) ?_
  refine (AllReadyH.cons (o := { dst := some 78, op := Op.call { callee := Callee.value (Operand.func 29), args := #[Operand.tmp 76, Operand.tmp 77], argTypes := #[27, 27] }, type := 27, pos := "law.go:102", after := #[{ on := 6, ground := Ground.data }, { on := 7, ground := Ground.data }, { on := 4, ground := Ground.chain }], guard := none }) rfl (fun K hK => ?_) AllReadyH.nil)
  rw [if_pos (by rfl)]
  go_simp
  go_at_call 29
  refine (interV (k : Nat) (k : Nat) vL1.out vL3.out hn5 hk3 (by rw [← EL1.out, ← EL3.out]; exact EL16.out) ZL1.out ZL3.out ZL16.out _ _ _ _ _ (Ha.out.grown hgr4) (Hc.out.grown hgr4)).mono ?_
  rintro e wc8 ⟨xr18, yr18, rfl, hrr18, gc8⟩
  have hgr8 := World.grownBy.trans hgr4 gc8
  go_wp2_with fail
  refine hK.out _ _ (HS.out _ hgr8) (fun hHeld => ?_)
  clear hK K
  try simp only [Act.put, List.setIfInBounds_toArray, List.set_cons_zero, List.set_cons_succ]
  refine wpAnyH_ready (rs := [9]) (by kernel_rfl) (by simp) ?_
  refine (AllReadyH.cons (o := { dst := some 79, op := Op.call { callee := Callee.value (Operand.func 27), args := #[Operand.tmp 75, Operand.tmp 78], argTypes := #[27, 27] }, type := 27, pos := "law.go:102", after := #[{ on := 5, ground := Ground.data }, { on := 8, ground := Ground.data }, { on := 8, ground := Ground.chain }], guard := none }) rfl (fun K hK => ?_) AllReadyH.nil)
  rw [if_pos (by rfl)]
  go_simp
  go_at_call 27
  refine (unionV (k : Nat) (k : Nat) vL6.out vL16.out hn5 hk3 (by rw [← EL6.out, ← EL16.out]; exact EL17.out) ZL6.out ZL16.out ZL17.out _ _ _ _ _ (Hr3.out.grown hgr8) hrr18).mono ?_
  rintro e wc9 ⟨xr19, yr19, rfl, hrr19, gc9⟩
  have hgr9 := World.grownBy.trans hgr8 gc9
  go_wp2_with fail
  refine hK.out _ _ (HS.out _ hgr9) (fun hHeld => ?_)
  clear hK K
  try simp only [Act.put, List.setIfInBounds_toArray, List.set_cons_zero, List.set_cons_succ]
  refine wpAnyH_ready (rs := [10]) (by kernel_rfl) (by simp) ?_
  refine (AllReadyH.cons (o := { dst := some 80, op := Op.call { callee := Callee.value (Operand.func 19), args := #[Operand.tmp 74, Operand.tmp 79], argTypes := #[27, 27] }, type := 4, pos := "law.go:102", after := #[{ on := 4, ground := Ground.data }, { on := 9, ground := Ground.data }, { on := 9, ground := Ground.chain }], guard := none }) rfl (fun K hK => ?_) AllReadyH.nil)
  rw [if_pos (by rfl)]
  go_simp
  go_at_call 19
  refine (equalV (k := k) (Q := true) (k : Nat) (k : Nat) vL15.out hn5 hk3 (eqQ _ Q20.out) ZL15.out ZL17.out _ _ _ _ _ (hrr17.grown (World.grownBy.trans gc8 gc9)) hrr19).mono ?_
  rintro e wc10 ⟨rfl, gc10⟩
  have hgr10 := World.grownBy.trans hgr9 gc10
  go_wp2_with fail
  refine hK.out _ _ (HS.out _ hgr10) (fun hHeld => ?_)
  clear hK K
  try simp only [Act.put, List.setIfInBounds_toArray, List.set_cons_zero, List.set_cons_succ]
  refine wpAnyH_take (i := 11) (oi := { dst := some 81, op := Op.unOp UnOp.not 4 (Operand.tmp 80), type := 4, pos := "law.go:102", after := #[{ on := 10, ground := Ground.data }], guard := none }) (v := ?_) rfl (by kernel_rfl) (by kernel_rfl) (by kernel_rfl) (fun _ _ _ h => h) (Or.inl ⟨by rfl, ?_⟩) (by assumption) ?_
  rotate_left 1
  · (intro W hSW; (try dsimp only at hSW); first | (go_simp; done) | (go_simp; with_reducible rfl))
  try simp only [Act.put, List.setIfInBounds_toArray, List.set_cons_zero, List.set_cons_succ]
  refine wpAnyH_take (i := 12) (oi := { dst := some 82, op := Op.move (Operand.tmp 81), type := 4, pos := "law.go:102", after := #[{ on := 11, ground := Ground.data }, { on := 10, ground := Ground.chain }], guard := none }) (v := ?_) rfl (by kernel_rfl) (by kernel_rfl) (by kernel_rfl) (fun _ _ _ h => h) (Or.inl ⟨by rfl, ?_⟩) (by assumption) ?_
  rotate_left 1
  · (intro W hSW; (try dsimp only at hSW); first | (go_simp; done) | (go_simp; with_reducible rfl))
  try simp only [Act.put, List.setIfInBounds_toArray, List.set_cons_zero, List.set_cons_succ]
  refine wpAnyH_take (i := 13) (oi := { dst := some 83, op := Op.load 27 (Operand.tmp 6), type := 27, pos := "law.go:102", after := #[{ on := 12, ground := Ground.guard }], guard := some (12, false) }) (v := ?_) rfl (by kernel_rfl) (by kernel_rfl) (by kernel_rfl) (fun _ _ _ h => h) (Or.inl ⟨by rfl, ?_⟩) (by assumption) ?_
  rotate_left 1
  · (intro W hSW; (try dsimp only at hSW); first | (go_simp; done) | (go_simp; with_reducible rfl))
  try simp only [Act.put, List.setIfInBounds_toArray, List.set_cons_zero, List.set_cons_succ]
  refine wpAnyH_take (i := 14) (oi := { dst := some 84, op := Op.load 27 (Operand.tmp 7), type := 27, pos := "law.go:102", after := #[{ on := 12, ground := Ground.guard }], guard := some (12, false) }) (v := ?_) rfl (by kernel_rfl) (by kernel_rfl) (by kernel_rfl) (fun _ _ _ h => h) (Or.inl ⟨by rfl, ?_⟩) (by assumption) ?_
  rotate_left 1
  · (intro W hSW; (try dsimp only at hSW); first | (go_simp; done) | (go_simp; with_reducible rfl))
  try simp only [Act.put, List.setIfInBounds_toArray, List.set_cons_zero, List.set_cons_succ]
  refine wpAnyH_take (i := 15) (oi := { dst := some 85, op := Op.load 27 (Operand.tmp 8), type := 27, pos := "law.go:102", after := #[{ on := 12, ground := Ground.guard }], guard := some (12, false) }) (v := ?_) rfl (by kernel_rfl) (by kernel_rfl) (by kernel_rfl) (fun _ _ _ h => h) (Or.inl ⟨by rfl, ?_⟩) (by assumption) ?_
  rotate_left 1
  · (intro W hSW; (try dsimp only at hSW); first | (go_simp; done) | (go_simp; with_reducible rfl))
  try simp only [Act.put, List.setIfInBounds_toArray, List.set_cons_zero, List.set_cons_succ]
  refine wpAnyH_take (i := 18) (oi := { dst := some 88, op := Op.load 27 (Operand.tmp 10), type := 27, pos := "law.go:102", after := #[{ on := 12, ground := Ground.guard }], guard := some (12, false) }) (v := ?_) rfl (by kernel_rfl) (by kernel_rfl) (by kernel_rfl) (fun _ _ _ h => h) (Or.inl ⟨by rfl, ?_⟩) (by assumption) ?_
  rotate_left 1
  · (intro W hSW; (try dsimp only at hSW); first | (go_simp; done) | (go_simp; with_reducible rfl))
  try simp only [Act.put, List.setIfInBounds_toArray, List.set_cons_zero, List.set_cons_succ]
  refine wpAnyH_take (i := 19) (oi := { dst := some 89, op := Op.load 27 (Operand.tmp 6), type := 27, pos := "law.go:102", after := #[{ on := 12, ground := Ground.guard }], guard := some (12, false) }) (v := ?_) rfl (by kernel_rfl) (by kernel_rfl) (by kernel_rfl) (fun _ _ _ h => h) (Or.inl ⟨by rfl, ?_⟩) (by assumption) ?_
  rotate_left 1
  · (intro W hSW; (try dsimp only at hSW); first | (go_simp; done) | (go_simp; with_reducible rfl))
  try simp only [Act.put, List.setIfInBounds_toArray, List.set_cons_zero, List.set_cons_succ]
  refine wpAnyH_take (i := 20) (oi := { dst := some 90, op := Op.load 27 (Operand.tmp 8), type := 27, pos := "law.go:102", after := #[{ on := 12, ground := Ground.guard }], guard := some (12, false) }) (v := ?_) rfl (by kernel_rfl) (by kernel_rfl) (by kernel_rfl) (fun _ _ _ h => h) (Or.inl ⟨by rfl, ?_⟩) (by assumption) ?_
  rotate_left 1
  · (intro W hSW; (try dsimp only at hSW); first | (go_simp; done) | (go_simp; with_reducible rfl))
  try simp only [Act.put, List.setIfInBounds_toArray, List.set_cons_zero, List.set_cons_succ]
  refine wpAnyH_ready (rs := [16]) (by kernel_rfl) (by simp) ?_
  refine (AllReadyH.cons (o := { dst := some 86, op := Op.call { callee := Callee.value (Operand.func 29), args := #[Operand.tmp 84, Operand.tmp 85], argTypes := #[27, 27] }, type := 27, pos := "law.go:102", after := #[{ on := 14, ground := Ground.data }, { on := 15, ground := Ground.data }, { on := 12, ground := Ground.chain }, { on := 12, ground := Ground.guard }], guard := some (12, false) }) rfl (fun K hK => ?_) AllReadyH.nil)
  rw [if_pos (by rfl)]
  go_simp
  go_at_call 29
  refine (interV (k : Nat) (k : Nat) vL2.out vL3.out hn5 hk3 (by rw [← EL2.out, ← EL3.out]; exact EL13.out) ZL2.out ZL3.out ZL13.out _ _ _ _ _ (Hb.out.grown hgr10) (Hc.out.grown hgr10)).mono ?_
  rintro e wc16 ⟨xr21, yr21, rfl, hrr21, gc16⟩
  have hgr16 := World.grownBy.trans hgr10 gc16
  go_wp2_with fail
  refine hK.out _ _ (HS.out _ hgr16) (fun hHeld => ?_)
  clear hK K
  try simp only [Act.put, List.setIfInBounds_toArray, List.set_cons_zero, List.set_cons_succ]
  refine wpAnyH_ready (rs := [17]) (by kernel_rfl) (by simp) ?_
  refine (AllReadyH.cons (o := { dst := some 87, op := Op.call { callee := Callee.value (Operand.func 27), args := #[Operand.tmp 83, Operand.tmp 86], argTypes := #[27, 27] }, type := 27, pos := "law.go:102", after := #[{ on := 13, ground := Ground.data }, { on := 16, ground := Ground.data }, { on := 16, ground := Ground.chain }, { on := 12, ground := Ground.guard }], guard := some (12, false) }) rfl (fun K hK => ?_) AllReadyH.nil)
  rw [if_pos (by rfl)]
  go_simp
  go_at_call 27
  refine (unionV (k : Nat) (k : Nat) vL1.out vL13.out hn5 hk3 (by rw [← EL1.out, ← EL13.out]; exact EL18.out) ZL1.out ZL13.out ZL18.out _ _ _ _ _ (Ha.out.grown hgr16) hrr21).mono ?_
  rintro e wc17 ⟨xr22, yr22, rfl, hrr22, gc17⟩
  have hgr17 := World.grownBy.trans hgr16 gc17
  go_wp2_with fail
  refine hK.out _ _ (HS.out _ hgr17) (fun hHeld => ?_)
  clear hK K
  try simp only [Act.put, List.setIfInBounds_toArray, List.set_cons_zero, List.set_cons_succ]
  refine wpAnyH_ready (rs := [21]) (by kernel_rfl) (by simp) ?_
  refine (AllReadyH.cons (o := { dst := some 91, op := Op.call { callee := Callee.value (Operand.func 27), args := #[Operand.tmp 89, Operand.tmp 90], argTypes := #[27, 27] }, type := 27, pos := "law.go:102", after := #[{ on := 19, ground := Ground.data }, { on := 20, ground := Ground.data }, { on := 17, ground := Ground.chain }, { on := 12, ground := Ground.guard }], guard := some (12, false) }) rfl (fun K hK => ?_) AllReadyH.nil)
  rw [if_pos (by rfl)]
  go_simp
  go_at_call 27
  refine (unionV (k : Nat) (k : Nat) vL1.out vL3.out hn5 hk3 (by rw [← EL1.out, ← EL3.out]; exact EL19.out) ZL1.out ZL3.out ZL19.out _ _ _ _ _ (Ha.out.grown hgr17) (Hc.out.grown hgr17)).mono ?_
  rintro e wc21 ⟨xr23, yr23, rfl, hrr23, gc21⟩
  have hgr21 := World.grownBy.trans hgr17 gc21
  go_wp2_with fail
  refine hK.out _ _ (HS.out _ hgr21) (fun hHeld => ?_)
  clear hK K
  try simp only [Act.put, List.setIfInBounds_toArray, List.set_cons_zero, List.set_cons_succ]
  refine wpAnyH_ready (rs := [22]) (by kernel_rfl) (by simp) ?_
  refine (AllReadyH.cons (o := { dst := some 92, op := Op.call { callee := Callee.value (Operand.func 29), args := #[Operand.tmp 88, Operand.tmp 91], argTypes := #[27, 27] }, type := 27, pos := "law.go:102", after := #[{ on := 18, ground := Ground.data }, { on := 21, ground := Ground.data }, { on := 21, ground := Ground.chain }, { on := 12, ground := Ground.guard }], guard := some (12, false) }) rfl (fun K hK => ?_) AllReadyH.nil)
  rw [if_pos (by rfl)]
  go_simp
  go_at_call 29
  refine (interV (k : Nat) (k : Nat) vL5.out vL19.out hn5 hk3 (by rw [← EL5.out, ← EL19.out]; exact EL20.out) ZL5.out ZL19.out ZL20.out _ _ _ _ _ (Hr2.out.grown hgr21) hrr23).mono ?_
  rintro e wc22 ⟨xr24, yr24, rfl, hrr24, gc22⟩
  have hgr22 := World.grownBy.trans hgr21 gc22
  go_wp2_with fail
  refine hK.out _ _ (HS.out _ hgr22) (fun hHeld => ?_)
  clear hK K
  try simp only [Act.put, List.setIfInBounds_toArray, List.set_cons_zero, List.set_cons_succ]
  refine wpAnyH_ready (rs := [23]) (by kernel_rfl) (by simp) ?_
  refine (AllReadyH.cons (o := { dst := some 93, op := Op.call { callee := Callee.value (Operand.func 19), args := #[Operand.tmp 87, Operand.tmp 92], argTypes := #[27, 27] }, type := 4, pos := "law.go:102", after := #[{ on := 17, ground := Ground.data }, { on := 22, ground := Ground.data }, { on := 22, ground := Ground.chain }, { on := 12, ground := Ground.guard }], guard := some (12, false) }) rfl (fun K hK => ?_) AllReadyH.nil)
  rw [if_pos (by rfl)]
  go_simp
  go_at_call 19
  refine (equalV (k := k) (Q := true) (k : Nat) (k : Nat) vL18.out hn5 hk3 (eqQ _ Q25.out) ZL18.out ZL20.out _ _ _ _ _ (hrr22.grown (World.grownBy.trans gc21 gc22)) hrr24).mono ?_
  rintro e wc23 ⟨rfl, gc23⟩
  have hgr23 := World.grownBy.trans hgr22 gc23
  go_wp2_with fail
  refine hK.out _ _ (HS.out _ hgr23) (fun hHeld => ?_)
  clear hK K
  try simp only [Act.put, List.setIfInBounds_toArray, List.set_cons_zero, List.set_cons_succ]
  refine wpAnyH_take (i := 24) (oi := { dst := some 94, op := Op.unOp UnOp.not 4 (Operand.tmp 93), type := 4, pos := "law.go:102", after := #[{ on := 23, ground := Ground.data }, { on := 12, ground := Ground.guard }], guard := some (12, false) }) (v := ?_) rfl (by kernel_rfl) (by kernel_rfl) (by kernel_rfl) (fun _ _ _ h => h) (Or.inl ⟨by rfl, ?_⟩) (by assumption) ?_
  rotate_left 1
  · (intro W hSW; (try dsimp only at hSW); first | (go_simp; done) | (go_simp; with_reducible rfl))
  try simp only [Act.put, List.setIfInBounds_toArray, List.set_cons_zero, List.set_cons_succ]
  refine wpAnyH_take (i := 25) (oi := { dst := some 95, op := Op.pick (Operand.tmp 82) (Operand.const (Value.bool true)) (Operand.tmp 94), type := 4, pos := "law.go:102", after := #[{ on := 12, ground := Ground.data }, { on := 24, ground := Ground.data }], guard := none }) (v := ?_) rfl (by kernel_rfl) (by kernel_rfl) (by kernel_rfl) (fun _ _ _ h => h) (Or.inl ⟨by rfl, ?_⟩) (by assumption) ?_
  rotate_left 1
  · (intro W hSW; (try dsimp only at hSW); first | (go_simp; done) | (go_simp; with_reducible rfl))
  try simp only [Act.put, List.setIfInBounds_toArray, List.set_cons_zero, List.set_cons_succ]
  refine wpAnyH_done (by kernel_rfl) ?_ _
  have hEND := hgr23
  clear hHeld
  obtain ⟨V15, rfl⟩ : ∃ z, z = wc23 := ⟨_, rfl⟩
  replace Ha := Lib.hid (Ha.out.grown hEND)
  replace Hb := Lib.hid (Hb.out.grown hEND)
  replace Hc := Lib.hid (Hc.out.grown hEND)
  replace Hr1 := Lib.hid (Hr1.out.grown hEND)
  replace Hr2 := Lib.hid (Hr2.out.grown hEND)
  replace Hr3 := Lib.hid (Hr3.out.grown hEND)
  replace HB6 := Lib.hid (And.intro (World.grownBy.cell hEND HB6.out.1 (by simp)) (World.grownBy.cell hEND HB6.out.2 (by simp)))
  replace HB7 := Lib.hid (And.intro (World.grownBy.cell hEND HB7.out.1 (by simp)) (World.grownBy.cell hEND HB7.out.2 (by simp)))
  replace HB8 := Lib.hid (And.intro (World.grownBy.cell hEND HB8.out.1 (by simp)) (World.grownBy.cell hEND HB8.out.2 (by simp)))
  replace HB9 := Lib.hid (And.intro (World.grownBy.cell hEND HB9.out.1 (by simp)) (World.grownBy.cell hEND HB9.out.2 (by simp)))
  replace HB10 := Lib.hid (And.intro (World.grownBy.cell hEND HB10.out.1 (by simp)) (World.grownBy.cell hEND HB10.out.2 (by simp)))
  replace HB11 := Lib.hid (And.intro (World.grownBy.cell hEND HB11.out.1 (by simp)) (World.grownBy.cell hEND HB11.out.2 (by simp)))
  replace HG := Lib.hid (World.grownBy.trans HG.out hEND)
  clear hEND HS hrr16 hrr17 hrr18 hrr19 hrr21 hrr22 hrr23 hrr24 hdr hgr3 hgr4 hgr8 hgr9 hgr10 hgr16 hgr17 hgr21 hgr22 hgr23 gc3 gc4 gc8 gc9 gc10 gc16 gc17 gc21 gc22 gc23
  have qB60 := HB6.out.1
  have qB61 := HB6.out.2
  have qB70 := HB7.out.1
  have qB71 := HB7.out.2
  have qB80 := HB8.out.1
  have qB81 := HB8.out.2
  have qB90 := HB9.out.1
  have qB91 := HB9.out.2
  have qB100 := HB10.out.1
  have qB101 := HB10.out.2
  have qB110 := HB11.out.1
  have qB111 := HB11.out.2
  go_upto_region 15 with fail
  clear qB60 qB61 qB70 qB71 qB80 qB81 qB90 qB91 qB100 qB101 qB110 qB111
  have HS := Lib.hid (fun (Wh : World) (hWh : V15.grownBy Wh none) => (⟨hWh, hWh.cell HB6.out.1 (by simp), hWh.cell HB6.out.2 (by simp), hWh.cell HB7.out.1 (by simp), hWh.cell HB7.out.2 (by simp), hWh.cell HB8.out.1 (by simp), hWh.cell HB8.out.2 (by simp), hWh.cell HB9.out.1 (by simp), hWh.cell HB9.out.2 (by simp), hWh.cell HB10.out.1 (by simp), hWh.cell HB10.out.2 (by simp), hWh.cell HB11.out.1 (by simp), hWh.cell HB11.out.2 (by simp)⟩ : (fun Wh : World => V15.grownBy Wh none ∧ Wh.cell? ⟨bB6, 0, none⟩ = some (.int .i64 (k : Nat)) ∧ Wh.cell? ⟨bB6, 1, none⟩ = some (.slice xa lL1 ya) ∧ Wh.cell? ⟨bB7, 0, none⟩ = some (.int .i64 (k : Nat)) ∧ Wh.cell? ⟨bB7, 1, none⟩ = some (.slice xb lL2 yb) ∧ Wh.cell? ⟨bB8, 0, none⟩ = some (.int .i64 (k : Nat)) ∧ Wh.cell? ⟨bB8, 1, none⟩ = some (.slice xc lL3 yc) ∧ Wh.cell? ⟨bB9, 0, none⟩ = some (.int .i64 (k : Nat)) ∧ Wh.cell? ⟨bB9, 1, none⟩ = some (.slice xr1 lL4 yr1) ∧ Wh.cell? ⟨bB10, 0, none⟩ = some (.int .i64 (k : Nat)) ∧ Wh.cell? ⟨bB10, 1, none⟩ = some (.slice xr2 lL5 yr2) ∧ Wh.cell? ⟨bB11, 0, none⟩ = some (.int .i64 (k : Nat)) ∧ Wh.cell? ⟨bB11, 1, none⟩ = some (.slice xr3 lL6 yr3)) Wh))
  have hdr : V15.grownBy V15.drew none := ⟨rfl, rfl, rfl, Nat.le_refl _, fun _ _ _ => rfl⟩
  refine wp_region_held_drew (S := (fun Wh : World => V15.grownBy Wh none ∧ Wh.cell? ⟨bB6, 0, none⟩ = some (.int .i64 (k : Nat)) ∧ Wh.cell? ⟨bB6, 1, none⟩ = some (.slice xa lL1 ya) ∧ Wh.cell? ⟨bB7, 0, none⟩ = some (.int .i64 (k : Nat)) ∧ Wh.cell? ⟨bB7, 1, none⟩ = some (.slice xb lL2 yb) ∧ Wh.cell? ⟨bB8, 0, none⟩ = some (.int .i64 (k : Nat)) ∧ Wh.cell? ⟨bB8, 1, none⟩ = some (.slice xc lL3 yc) ∧ Wh.cell? ⟨bB9, 0, none⟩ = some (.int .i64 (k : Nat)) ∧ Wh.cell? ⟨bB9, 1, none⟩ = some (.slice xr1 lL4 yr1) ∧ Wh.cell? ⟨bB10, 0, none⟩ = some (.int .i64 (k : Nat)) ∧ Wh.cell? ⟨bB10, 1, none⟩ = some (.slice xr2 lL5 yr2) ∧ Wh.cell? ⟨bB11, 0, none⟩ = some (.int .i64 (k : Nat)) ∧ Wh.cell? ⟨bB11, 1, none⟩ = some (.slice xr3 lL6 yr3))) (by kernel_rfl) (HS.out _ hdr) (fun hHeld => ?_)
  refine wpAnyH_take (i := 0) (oi := { dst := some 96, op := Op.load 27 (Operand.tmp 6), type := 27, pos := "law.go:105", after := #[], guard := none }) (v := ?_) rfl (by kernel_rfl) (by kernel_rfl) (by kernel_rfl) (fun _ _ _ h => h) (Or.inl ⟨by rfl, ?_⟩) (by assumption) ?_
  rotate_left 1
  · (intro W hSW; (try dsimp only at hSW); first | (go_simp; done) | (go_simp; with_reducible rfl))
  try simp only [Act.put, List.setIfInBounds_toArray, List.set_cons_zero, List.set_cons_succ]
  refine wpAnyH_take (i := 1) (oi := { dst := some 97, op := Op.load 27 (Operand.tmp 11), type := 27, pos := "law.go:105", after := #[], guard := none }) (v := ?_) rfl (by kernel_rfl) (by kernel_rfl) (by kernel_rfl) (fun _ _ _ h => h) (Or.inl ⟨by rfl, ?_⟩) (by assumption) ?_
  rotate_left 1
  · (intro W hSW; (try dsimp only at hSW); first | (go_simp; done) | (go_simp; with_reducible rfl))
  try simp only [Act.put, List.setIfInBounds_toArray, List.set_cons_zero, List.set_cons_succ]
  refine wpAnyH_take (i := 3) (oi := { dst := some 99, op := Op.load 27 (Operand.tmp 6), type := 27, pos := "law.go:105", after := #[], guard := none }) (v := ?_) rfl (by kernel_rfl) (by kernel_rfl) (by kernel_rfl) (fun _ _ _ h => h) (Or.inl ⟨by rfl, ?_⟩) (by assumption) ?_
  rotate_left 1
  · (intro W hSW; (try dsimp only at hSW); first | (go_simp; done) | (go_simp; with_reducible rfl))
  try simp only [Act.put, List.setIfInBounds_toArray, List.set_cons_zero, List.set_cons_succ]
  refine wpAnyH_ready (rs := [2]) (by kernel_rfl) (by simp) ?_
  refine (AllReadyH.cons (o := { dst := some 98, op := Op.call { callee := Callee.value (Operand.func 27), args := #[Operand.tmp 96, Operand.tmp 97], argTypes := #[27, 27] }, type := 27, pos := "law.go:105", after := #[{ on := 0, ground := Ground.data }, { on := 1, ground := Ground.data }], guard := none }) rfl (fun K hK => ?_) AllReadyH.nil)
  rw [if_pos (by rfl)]
  go_simp
  go_at_call 27
  refine (unionV (k : Nat) (k : Nat) vL1.out vL6.out hn5 hk3 (by rw [← EL1.out, ← EL6.out]; exact EL21.out) ZL1.out ZL6.out ZL21.out _ _ _ _ _ (Ha.out.grown hdr) (Hr3.out.grown hdr)).mono ?_
  rintro e wc2 ⟨xr26, yr26, rfl, hrr26, gc2⟩
  have hgr2 := World.grownBy.trans hdr gc2
  go_wp2_with fail
  refine hK.out _ _ (HS.out _ hgr2) (fun hHeld => ?_)
  clear hK K
  try simp only [Act.put, List.setIfInBounds_toArray, List.set_cons_zero, List.set_cons_succ]
  refine wpAnyH_ready (rs := [4]) (by kernel_rfl) (by simp) ?_
  refine (AllReadyH.cons (o := { dst := some 100, op := Op.call { callee := Callee.value (Operand.func 19), args := #[Operand.tmp 98, Operand.tmp 99], argTypes := #[27, 27] }, type := 4, pos := "law.go:105", after := #[{ on := 2, ground := Ground.data }, { on := 3, ground := Ground.data }, { on := 2, ground := Ground.chain }], guard := none }) rfl (fun K hK => ?_) AllReadyH.nil)
  rw [if_pos (by rfl)]
  go_simp
  go_at_call 19
  refine (equalV (k := k) (Q := true) (k : Nat) (k : Nat) vL21.out hn5 hk3 (eqQ _ Q27.out) ZL21.out ZL1.out _ _ _ _ _ hrr26 (Ha.out.grown hgr2)).mono ?_
  rintro e wc4 ⟨rfl, gc4⟩
  have hgr4 := World.grownBy.trans hgr2 gc4
  go_wp2_with fail
  refine hK.out _ _ (HS.out _ hgr4) (fun hHeld => ?_)
  clear hK K
  try simp only [Act.put, List.setIfInBounds_toArray, List.set_cons_zero, List.set_cons_succ]
  refine wpAnyH_take (i := 5) (oi := { dst := some 101, op := Op.unOp UnOp.not 4 (Operand.tmp 100), type := 4, pos := "law.go:105", after := #[{ on := 4, ground := Ground.data }], guard := none }) (v := ?_) rfl (by kernel_rfl) (by kernel_rfl) (by kernel_rfl) (fun _ _ _ h => h) (Or.inl ⟨by rfl, ?_⟩) (by assumption) ?_
  rotate_left 1
  · (intro W hSW; (try dsimp only at hSW); first | (go_simp; done) | (go_simp; with_reducible rfl))
  try simp only [Act.put, List.setIfInBounds_toArray, List.set_cons_zero, List.set_cons_succ]
  refine wpAnyH_take (i := 6) (oi := { dst := some 102, op := Op.move (Operand.tmp 101), type := 4, pos := "law.go:105", after := #[{ on := 5, ground := Ground.data }, { on := 4, ground := Ground.chain }], guard := none }) (v := ?_) rfl (by kernel_rfl) (by kernel_rfl) (by kernel_rfl) (fun _ _ _ h => h) (Or.inl ⟨by rfl, ?_⟩) (by assumption) ?_
  rotate_left 1
  · (intro W hSW; (try dsimp only at hSW); first | (go_simp; done) | (go_simp; with_reducible rfl))
  try simp only [Act.put, List.setIfInBounds_toArray, List.set_cons_zero, List.set_cons_succ]
  refine wpAnyH_take (i := 7) (oi := { dst := some 103, op := Op.load 27 (Operand.tmp 6), type := 27, pos := "law.go:105", after := #[{ on := 6, ground := Ground.guard }], guard := some (6, false) }) (v := ?_) rfl (by kernel_rfl) (by kernel_rfl) (by kernel_rfl) (fun _ _ _ h => h) (Or.inl ⟨by rfl, ?_⟩) (by assumption) ?_
  rotate_left 1
  · (intro W hSW; (try dsimp only at hSW); first | (go_simp; done) | (go_simp; with_reducible rfl))
  try simp only [Act.put, List.setIfInBounds_toArray, List.set_cons_zero, List.set_cons_succ]
  refine wpAnyH_take (i := 8) (oi := { dst := some 104, op := Op.load 27 (Operand.tmp 10), type := 27, pos := "law.go:105", after := #[{ on := 6, ground := Ground.guard }], guard := some (6, false) }) (v := ?_) rfl (by kernel_rfl) (by kernel_rfl) (by kernel_rfl) (fun _ _ _ h => h) (Or.inl ⟨by rfl, ?_⟩) (by assumption) ?_
  rotate_left 1
  · (intro W hSW; (try dsimp only at hSW); first | (go_simp; done) | (go_simp; with_reducible rfl))
  try simp only [Act.put, List.setIfInBounds_toArray, List.set_cons_zero, List.set_cons_succ]
  refine wpAnyH_take (i := 10) (oi := { dst := some 106, op := Op.load 27 (Operand.tmp 6), type := 27, pos := "law.go:105", after := #[{ on := 6, ground := Ground.guard }], guard := some (6, false) }) (v := ?_) rfl (by kernel_rfl) (by kernel_rfl) (by kernel_rfl) (fun _ _ _ h => h) (Or.inl ⟨by rfl, ?_⟩) (by assumption) ?_
  rotate_left 1
  · (intro W hSW; (try dsimp only at hSW); first | (go_simp; done) | (go_simp; with_reducible rfl))
  try simp only [Act.put, List.setIfInBounds_toArray, List.set_cons_zero, List.set_cons_succ]
  refine wpAnyH_ready (rs := [9]) (by kernel_rfl) (by simp) ?_
  refine (AllReadyH.cons (o := { dst := some 105, op := Op.call { callee := Callee.value (Operand.func 29), args := #[Operand.tmp 103, Operand.tmp 104], argTypes := #[27, 27] }, type := 27, pos := "law.go:105", after := #[{ on := 7, ground := Ground.data }, { on := 8, ground := Ground.data }, { on := 6, ground := Ground.chain }, { on := 6, ground := Ground.guard }], guard := some (6, false) }) rfl (fun K hK => ?_) AllReadyH.nil)
  rw [if_pos (by rfl)]
  go_simp
  go_at_call 29
  refine (interV (k : Nat) (k : Nat) vL1.out vL5.out hn5 hk3 (by rw [← EL1.out, ← EL5.out]; exact EL22.out) ZL1.out ZL5.out ZL22.out _ _ _ _ _ (Ha.out.grown hgr4) (Hr2.out.grown hgr4)).mono ?_
  rintro e wc9 ⟨xr28, yr28, rfl, hrr28, gc9⟩
  have hgr9 := World.grownBy.trans hgr4 gc9
  go_wp2_with fail
  refine hK.out _ _ (HS.out _ hgr9) (fun hHeld => ?_)
  clear hK K
  try simp only [Act.put, List.setIfInBounds_toArray, List.set_cons_zero, List.set_cons_succ]
  refine wpAnyH_ready (rs := [11]) (by kernel_rfl) (by simp) ?_
  refine (AllReadyH.cons (o := { dst := some 107, op := Op.call { callee := Callee.value (Operand.func 19), args := #[Operand.tmp 105, Operand.tmp 106], argTypes := #[27, 27] }, type := 4, pos := "law.go:105", after := #[{ on := 9, ground := Ground.data }, { on := 10, ground := Ground.data }, { on := 9, ground := Ground.chain }, { on := 6, ground := Ground.guard }], guard := some (6, false) }) rfl (fun K hK => ?_) AllReadyH.nil)
  rw [if_pos (by rfl)]
  go_simp
  go_at_call 19
  refine (equalV (k := k) (Q := true) (k : Nat) (k : Nat) vL22.out hn5 hk3 (eqQ _ Q29.out) ZL22.out ZL1.out _ _ _ _ _ hrr28 (Ha.out.grown hgr9)).mono ?_
  rintro e wc11 ⟨rfl, gc11⟩
  have hgr11 := World.grownBy.trans hgr9 gc11
  go_wp2_with fail
  refine hK.out _ _ (HS.out _ hgr11) (fun hHeld => ?_)
  clear hK K
  try simp only [Act.put, List.setIfInBounds_toArray, List.set_cons_zero, List.set_cons_succ]
  refine wpAnyH_take (i := 12) (oi := { dst := some 108, op := Op.unOp UnOp.not 4 (Operand.tmp 107), type := 4, pos := "law.go:105", after := #[{ on := 11, ground := Ground.data }, { on := 6, ground := Ground.guard }], guard := some (6, false) }) (v := ?_) rfl (by kernel_rfl) (by kernel_rfl) (by kernel_rfl) (fun _ _ _ h => h) (Or.inl ⟨by rfl, ?_⟩) (by assumption) ?_
  rotate_left 1
  · (intro W hSW; (try dsimp only at hSW); first | (go_simp; done) | (go_simp; with_reducible rfl))
  try simp only [Act.put, List.setIfInBounds_toArray, List.set_cons_zero, List.set_cons_succ]
  refine wpAnyH_take (i := 13) (oi := { dst := some 109, op := Op.pick (Operand.tmp 102) (Operand.const (Value.bool true)) (Operand.tmp 108), type := 4, pos := "law.go:105", after := #[{ on := 6, ground := Ground.data }, { on := 12, ground := Ground.data }], guard := none }) (v := ?_) rfl (by kernel_rfl) (by kernel_rfl) (by kernel_rfl) (fun _ _ _ h => h) (Or.inl ⟨by rfl, ?_⟩) (by assumption) ?_
  rotate_left 1
  · (intro W hSW; (try dsimp only at hSW); first | (go_simp; done) | (go_simp; with_reducible rfl))
  try simp only [Act.put, List.setIfInBounds_toArray, List.set_cons_zero, List.set_cons_succ]
  refine wpAnyH_done (by kernel_rfl) ?_ _
  have hEND := hgr11
  clear hHeld
  obtain ⟨V16, rfl⟩ : ∃ z, z = wc11 := ⟨_, rfl⟩
  replace Ha := Lib.hid (Ha.out.grown hEND)
  replace Hb := Lib.hid (Hb.out.grown hEND)
  replace Hc := Lib.hid (Hc.out.grown hEND)
  replace Hr1 := Lib.hid (Hr1.out.grown hEND)
  replace Hr2 := Lib.hid (Hr2.out.grown hEND)
  replace Hr3 := Lib.hid (Hr3.out.grown hEND)
  replace HB6 := Lib.hid (And.intro (World.grownBy.cell hEND HB6.out.1 (by simp)) (World.grownBy.cell hEND HB6.out.2 (by simp)))
  replace HB7 := Lib.hid (And.intro (World.grownBy.cell hEND HB7.out.1 (by simp)) (World.grownBy.cell hEND HB7.out.2 (by simp)))
  replace HB8 := Lib.hid (And.intro (World.grownBy.cell hEND HB8.out.1 (by simp)) (World.grownBy.cell hEND HB8.out.2 (by simp)))
  replace HB9 := Lib.hid (And.intro (World.grownBy.cell hEND HB9.out.1 (by simp)) (World.grownBy.cell hEND HB9.out.2 (by simp)))
  replace HB10 := Lib.hid (And.intro (World.grownBy.cell hEND HB10.out.1 (by simp)) (World.grownBy.cell hEND HB10.out.2 (by simp)))
  replace HB11 := Lib.hid (And.intro (World.grownBy.cell hEND HB11.out.1 (by simp)) (World.grownBy.cell hEND HB11.out.2 (by simp)))
  replace HG := Lib.hid (World.grownBy.trans HG.out hEND)
  clear hEND HS hrr26 hrr28 hdr hgr2 hgr4 hgr9 hgr11 gc2 gc4 gc9 gc11
  have qB60 := HB6.out.1
  have qB61 := HB6.out.2
  have qB70 := HB7.out.1
  have qB71 := HB7.out.2
  have qB80 := HB8.out.1
  have qB81 := HB8.out.2
  have qB90 := HB9.out.1
  have qB91 := HB9.out.2
  have qB100 := HB10.out.1
  have qB101 := HB10.out.2
  have qB110 := HB11.out.1
  have qB111 := HB11.out.2
  go_upto_region 17 with fail
  clear qB60 qB61 qB70 qB71 qB80 qB81 qB90 qB91 qB100 qB101 qB110 qB111
  have HS := Lib.hid (fun (Wh : World) (hWh : V16.grownBy Wh none) => (⟨hWh, hWh.cell HB6.out.1 (by simp), hWh.cell HB6.out.2 (by simp), hWh.cell HB7.out.1 (by simp), hWh.cell HB7.out.2 (by simp), hWh.cell HB8.out.1 (by simp), hWh.cell HB8.out.2 (by simp), hWh.cell HB9.out.1 (by simp), hWh.cell HB9.out.2 (by simp), hWh.cell HB10.out.1 (by simp), hWh.cell HB10.out.2 (by simp), hWh.cell HB11.out.1 (by simp), hWh.cell HB11.out.2 (by simp)⟩ : (fun Wh : World => V16.grownBy Wh none ∧ Wh.cell? ⟨bB6, 0, none⟩ = some (.int .i64 (k : Nat)) ∧ Wh.cell? ⟨bB6, 1, none⟩ = some (.slice xa lL1 ya) ∧ Wh.cell? ⟨bB7, 0, none⟩ = some (.int .i64 (k : Nat)) ∧ Wh.cell? ⟨bB7, 1, none⟩ = some (.slice xb lL2 yb) ∧ Wh.cell? ⟨bB8, 0, none⟩ = some (.int .i64 (k : Nat)) ∧ Wh.cell? ⟨bB8, 1, none⟩ = some (.slice xc lL3 yc) ∧ Wh.cell? ⟨bB9, 0, none⟩ = some (.int .i64 (k : Nat)) ∧ Wh.cell? ⟨bB9, 1, none⟩ = some (.slice xr1 lL4 yr1) ∧ Wh.cell? ⟨bB10, 0, none⟩ = some (.int .i64 (k : Nat)) ∧ Wh.cell? ⟨bB10, 1, none⟩ = some (.slice xr2 lL5 yr2) ∧ Wh.cell? ⟨bB11, 0, none⟩ = some (.int .i64 (k : Nat)) ∧ Wh.cell? ⟨bB11, 1, none⟩ = some (.slice xr3 lL6 yr3)) Wh))
  have hdr : V16.grownBy V16.drew none := ⟨rfl, rfl, rfl, Nat.le_refl _, fun _ _ _ => rfl⟩
  refine wp_region_held_drew (S := (fun Wh : World => V16.grownBy Wh none ∧ Wh.cell? ⟨bB6, 0, none⟩ = some (.int .i64 (k : Nat)) ∧ Wh.cell? ⟨bB6, 1, none⟩ = some (.slice xa lL1 ya) ∧ Wh.cell? ⟨bB7, 0, none⟩ = some (.int .i64 (k : Nat)) ∧ Wh.cell? ⟨bB7, 1, none⟩ = some (.slice xb lL2 yb) ∧ Wh.cell? ⟨bB8, 0, none⟩ = some (.int .i64 (k : Nat)) ∧ Wh.cell? ⟨bB8, 1, none⟩ = some (.slice xc lL3 yc) ∧ Wh.cell? ⟨bB9, 0, none⟩ = some (.int .i64 (k : Nat)) ∧ Wh.cell? ⟨bB9, 1, none⟩ = some (.slice xr1 lL4 yr1) ∧ Wh.cell? ⟨bB10, 0, none⟩ = some (.int .i64 (k : Nat)) ∧ Wh.cell? ⟨bB10, 1, none⟩ = some (.slice xr2 lL5 yr2) ∧ Wh.cell? ⟨bB11, 0, none⟩ = some (.int .i64 (k : Nat)) ∧ Wh.cell? ⟨bB11, 1, none⟩ = some (.slice xr3 lL6 yr3))) (by kernel_rfl) (HS.out _ hdr) (fun hHeld => ?_)
  refine wpAnyH_take (i := 0) (oi := { dst := some 110, op := Op.load 27 (Operand.tmp 9), type := 27, pos := "law.go:108", after := #[], guard := none }) (v := ?_) rfl (by kernel_rfl) (by kernel_rfl) (by kernel_rfl) (fun _ _ _ h => h) (Or.inl ⟨by rfl, ?_⟩) (by assumption) ?_
  rotate_left 1
  · (intro W hSW; (try dsimp only at hSW); first | (go_simp; done) | (go_simp; with_reducible rfl))
  try simp only [Act.put, List.setIfInBounds_toArray, List.set_cons_zero, List.set_cons_succ]
  refine wpAnyH_take (i := 1) (oi := { dst := some 111, op := Op.load 27 (Operand.tmp 10), type := 27, pos := "law.go:108", after := #[], guard := none }) (v := ?_) rfl (by kernel_rfl) (by kernel_rfl) (by kernel_rfl) (fun _ _ _ h => h) (Or.inl ⟨by rfl, ?_⟩) (by assumption) ?_
  rotate_left 1
  · (intro W hSW; (try dsimp only at hSW); first | (go_simp; done) | (go_simp; with_reducible rfl))
  try simp only [Act.put, List.setIfInBounds_toArray, List.set_cons_zero, List.set_cons_succ]
  refine wpAnyH_take (i := 3) (oi := { dst := some 113, op := Op.load 27 (Operand.tmp 9), type := 27, pos := "law.go:108", after := #[], guard := none }) (v := ?_) rfl (by kernel_rfl) (by kernel_rfl) (by kernel_rfl) (fun _ _ _ h => h) (Or.inl ⟨by rfl, ?_⟩) (by assumption) ?_
  rotate_left 1
  · (intro W hSW; (try dsimp only at hSW); first | (go_simp; done) | (go_simp; with_reducible rfl))
  try simp only [Act.put, List.setIfInBounds_toArray, List.set_cons_zero, List.set_cons_succ]
  refine wpAnyH_take (i := 4) (oi := { dst := some 114, op := Op.load 27 (Operand.tmp 6), type := 27, pos := "law.go:108", after := #[], guard := none }) (v := ?_) rfl (by kernel_rfl) (by kernel_rfl) (by kernel_rfl) (fun _ _ _ h => h) (Or.inl ⟨by rfl, ?_⟩) (by assumption) ?_
  rotate_left 1
  · (intro W hSW; (try dsimp only at hSW); first | (go_simp; done) | (go_simp; with_reducible rfl))
  try simp only [Act.put, List.setIfInBounds_toArray, List.set_cons_zero, List.set_cons_succ]
  refine wpAnyH_take (i := 6) (oi := { dst := some 116, op := Op.load 27 (Operand.tmp 9), type := 27, pos := "law.go:108", after := #[], guard := none }) (v := ?_) rfl (by kernel_rfl) (by kernel_rfl) (by kernel_rfl) (fun _ _ _ h => h) (Or.inl ⟨by rfl, ?_⟩) (by assumption) ?_
  rotate_left 1
  · (intro W hSW; (try dsimp only at hSW); first | (go_simp; done) | (go_simp; with_reducible rfl))
  try simp only [Act.put, List.setIfInBounds_toArray, List.set_cons_zero, List.set_cons_succ]
  refine wpAnyH_take (i := 7) (oi := { dst := some 117, op := Op.load 27 (Operand.tmp 7), type := 27, pos := "law.go:108", after := #[], guard := none }) (v := ?_) rfl (by kernel_rfl) (by kernel_rfl) (by kernel_rfl) (fun _ _ _ h => h) (Or.inl ⟨by rfl, ?_⟩) (by assumption) ?_
  rotate_left 1
  · (intro W hSW; (try dsimp only at hSW); first | (go_simp; done) | (go_simp; with_reducible rfl))
  try simp only [Act.put, List.setIfInBounds_toArray, List.set_cons_zero, List.set_cons_succ]
  refine wpAnyH_ready (rs := [2]) (by kernel_rfl) (by simp) ?_
  refine (AllReadyH.cons (o := { dst := some 112, op := Op.call { callee := Callee.value (Operand.func 31), args := #[Operand.tmp 110, Operand.tmp 111], argTypes := #[27, 27] }, type := 27, pos := "law.go:108", after := #[{ on := 0, ground := Ground.data }, { on := 1, ground := Ground.data }], guard := none }) rfl (fun K hK => ?_) AllReadyH.nil)
  rw [if_pos (by rfl)]
  go_simp
  go_at_call 31
  refine (diffV (k : Nat) (k : Nat) vL4.out vL5.out hn5 hk3 (by rw [← EL4.out, ← EL5.out]; exact EL23.out) ZL4.out ZL5.out ZL23.out _ _ _ _ _ (Hr1.out.grown hdr) (Hr2.out.grown hdr)).mono ?_
  rintro e wc2 ⟨xr30, yr30, rfl, hrr30, gc2⟩
  have hgr2 := World.grownBy.trans hdr gc2
  go_wp2_with fail
  refine hK.out _ _ (HS.out _ hgr2) (fun hHeld => ?_)
  clear hK K
  try simp only [Act.put, List.setIfInBounds_toArray, List.set_cons_zero, List.set_cons_succ]
  refine wpAnyH_ready (rs := [5]) (by kernel_rfl) (by simp) ?_
  refine (AllReadyH.cons (o := { dst := some 115, op := Op.call { callee := Callee.value (Operand.func 31), args := #[Operand.tmp 113, Operand.tmp 114], argTypes := #[27, 27] }, type := 27, pos := "law.go:108", after := #[{ on := 3, ground := Ground.data }, { on := 4, ground := Ground.data }, { on := 2, ground := Ground.chain }], guard := none }) rfl (fun K hK => ?_) AllReadyH.nil)
  rw [if_pos (by rfl)]
  go_simp
  go_at_call 31
  refine (diffV (k : Nat) (k : Nat) vL4.out vL1.out hn5 hk3 (by rw [← EL4.out, ← EL1.out]; exact EL24.out) ZL4.out ZL1.out ZL24.out _ _ _ _ _ (Hr1.out.grown hgr2) (Ha.out.grown hgr2)).mono ?_
  rintro e wc5 ⟨xr31, yr31, rfl, hrr31, gc5⟩
  have hgr5 := World.grownBy.trans hgr2 gc5
  go_wp2_with fail
  refine hK.out _ _ (HS.out _ hgr5) (fun hHeld => ?_)
  clear hK K
  try simp only [Act.put, List.setIfInBounds_toArray, List.set_cons_zero, List.set_cons_succ]
  refine wpAnyH_ready (rs := [8]) (by kernel_rfl) (by simp) ?_
  refine (AllReadyH.cons (o := { dst := some 118, op := Op.call { callee := Callee.value (Operand.func 31), args := #[Operand.tmp 116, Operand.tmp 117], argTypes := #[27, 27] }, type := 27, pos := "law.go:108", after := #[{ on := 6, ground := Ground.data }, { on := 7, ground := Ground.data }, { on := 5, ground := Ground.chain }], guard := none }) rfl (fun K hK => ?_) AllReadyH.nil)
  rw [if_pos (by rfl)]
  go_simp
  go_at_call 31
  refine (diffV (k : Nat) (k : Nat) vL4.out vL2.out hn5 hk3 (by rw [← EL4.out, ← EL2.out]; exact EL25.out) ZL4.out ZL2.out ZL25.out _ _ _ _ _ (Hr1.out.grown hgr5) (Hb.out.grown hgr5)).mono ?_
  rintro e wc8 ⟨xr32, yr32, rfl, hrr32, gc8⟩
  have hgr8 := World.grownBy.trans hgr5 gc8
  go_wp2_with fail
  refine hK.out _ _ (HS.out _ hgr8) (fun hHeld => ?_)
  clear hK K
  try simp only [Act.put, List.setIfInBounds_toArray, List.set_cons_zero, List.set_cons_succ]
  refine wpAnyH_ready (rs := [9]) (by kernel_rfl) (by simp) ?_
  refine (AllReadyH.cons (o := { dst := some 119, op := Op.call { callee := Callee.value (Operand.func 29), args := #[Operand.tmp 115, Operand.tmp 118], argTypes := #[27, 27] }, type := 27, pos := "law.go:108", after := #[{ on := 5, ground := Ground.data }, { on := 8, ground := Ground.data }, { on := 8, ground := Ground.chain }], guard := none }) rfl (fun K hK => ?_) AllReadyH.nil)
  rw [if_pos (by rfl)]
  go_simp
  go_at_call 29
  refine (interV (k : Nat) (k : Nat) vL24.out vL25.out hn5 hk3 (by rw [← EL24.out, ← EL25.out]; exact EL26.out) ZL24.out ZL25.out ZL26.out _ _ _ _ _ (hrr31.grown gc8) hrr32).mono ?_
  rintro e wc9 ⟨xr33, yr33, rfl, hrr33, gc9⟩
  have hgr9 := World.grownBy.trans hgr8 gc9
  go_wp2_with fail
  refine hK.out _ _ (HS.out _ hgr9) (fun hHeld => ?_)
  clear hK K
  try simp only [Act.put, List.setIfInBounds_toArray, List.set_cons_zero, List.set_cons_succ]
  refine wpAnyH_ready (rs := [10]) (by kernel_rfl) (by simp) ?_
  refine (AllReadyH.cons (o := { dst := some 120, op := Op.call { callee := Callee.value (Operand.func 19), args := #[Operand.tmp 112, Operand.tmp 119], argTypes := #[27, 27] }, type := 4, pos := "law.go:108", after := #[{ on := 2, ground := Ground.data }, { on := 9, ground := Ground.data }, { on := 9, ground := Ground.chain }], guard := none }) rfl (fun K hK => ?_) AllReadyH.nil)
  rw [if_pos (by rfl)]
  go_simp
  go_at_call 19
  refine (equalV (k := k) (Q := true) (k : Nat) (k : Nat) vL23.out hn5 hk3 (eqQ _ Q34.out) ZL23.out ZL26.out _ _ _ _ _ (hrr30.grown (World.grownBy.trans (World.grownBy.trans gc5 gc8) gc9)) hrr33).mono ?_
  rintro e wc10 ⟨rfl, gc10⟩
  have hgr10 := World.grownBy.trans hgr9 gc10
  go_wp2_with fail
  refine hK.out _ _ (HS.out _ hgr10) (fun hHeld => ?_)
  clear hK K
  try simp only [Act.put, List.setIfInBounds_toArray, List.set_cons_zero, List.set_cons_succ]
  refine wpAnyH_take (i := 11) (oi := { dst := some 121, op := Op.unOp UnOp.not 4 (Operand.tmp 120), type := 4, pos := "law.go:108", after := #[{ on := 10, ground := Ground.data }], guard := none }) (v := ?_) rfl (by kernel_rfl) (by kernel_rfl) (by kernel_rfl) (fun _ _ _ h => h) (Or.inl ⟨by rfl, ?_⟩) (by assumption) ?_
  rotate_left 1
  · (intro W hSW; (try dsimp only at hSW); first | (go_simp; done) | (go_simp; with_reducible rfl))
  try simp only [Act.put, List.setIfInBounds_toArray, List.set_cons_zero, List.set_cons_succ]
  refine wpAnyH_take (i := 12) (oi := { dst := some 122, op := Op.move (Operand.tmp 121), type := 4, pos := "law.go:108", after := #[{ on := 11, ground := Ground.data }, { on := 10, ground := Ground.chain }], guard := none }) (v := ?_) rfl (by kernel_rfl) (by kernel_rfl) (by kernel_rfl) (fun _ _ _ h => h) (Or.inl ⟨by rfl, ?_⟩) (by assumption) ?_
  rotate_left 1
  · (intro W hSW; (try dsimp only at hSW); first | (go_simp; done) | (go_simp; with_reducible rfl))
  try simp only [Act.put, List.setIfInBounds_toArray, List.set_cons_zero, List.set_cons_succ]
  refine wpAnyH_take (i := 13) (oi := { dst := some 123, op := Op.load 27 (Operand.tmp 9), type := 27, pos := "law.go:108", after := #[{ on := 12, ground := Ground.guard }], guard := some (12, false) }) (v := ?_) rfl (by kernel_rfl) (by kernel_rfl) (by kernel_rfl) (fun _ _ _ h => h) (Or.inl ⟨by rfl, ?_⟩) (by assumption) ?_
  rotate_left 1
  · (intro W hSW; (try dsimp only at hSW); first | (go_simp; done) | (go_simp; with_reducible rfl))
  try simp only [Act.put, List.setIfInBounds_toArray, List.set_cons_zero, List.set_cons_succ]
  refine wpAnyH_take (i := 14) (oi := { dst := some 124, op := Op.load 27 (Operand.tmp 11), type := 27, pos := "law.go:108", after := #[{ on := 12, ground := Ground.guard }], guard := some (12, false) }) (v := ?_) rfl (by kernel_rfl) (by kernel_rfl) (by kernel_rfl) (fun _ _ _ h => h) (Or.inl ⟨by rfl, ?_⟩) (by assumption) ?_
  rotate_left 1
  · (intro W hSW; (try dsimp only at hSW); first | (go_simp; done) | (go_simp; with_reducible rfl))
  try simp only [Act.put, List.setIfInBounds_toArray, List.set_cons_zero, List.set_cons_succ]
  refine wpAnyH_take (i := 16) (oi := { dst := some 126, op := Op.load 27 (Operand.tmp 9), type := 27, pos := "law.go:108", after := #[{ on := 12, ground := Ground.guard }], guard := some (12, false) }) (v := ?_) rfl (by kernel_rfl) (by kernel_rfl) (by kernel_rfl) (fun _ _ _ h => h) (Or.inl ⟨by rfl, ?_⟩) (by assumption) ?_
  rotate_left 1
  · (intro W hSW; (try dsimp only at hSW); first | (go_simp; done) | (go_simp; with_reducible rfl))
  try simp only [Act.put, List.setIfInBounds_toArray, List.set_cons_zero, List.set_cons_succ]
  refine wpAnyH_take (i := 17) (oi := { dst := some 127, op := Op.load 27 (Operand.tmp 6), type := 27, pos := "law.go:108", after := #[{ on := 12, ground := Ground.guard }], guard := some (12, false) }) (v := ?_) rfl (by kernel_rfl) (by kernel_rfl) (by kernel_rfl) (fun _ _ _ h => h) (Or.inl ⟨by rfl, ?_⟩) (by assumption) ?_
  rotate_left 1
  · (intro W hSW; (try dsimp only at hSW); first | (go_simp; done) | (go_simp; with_reducible rfl))
  try simp only [Act.put, List.setIfInBounds_toArray, List.set_cons_zero, List.set_cons_succ]
  refine wpAnyH_take (i := 19) (oi := { dst := some 129, op := Op.load 27 (Operand.tmp 9), type := 27, pos := "law.go:108", after := #[{ on := 12, ground := Ground.guard }], guard := some (12, false) }) (v := ?_) rfl (by kernel_rfl) (by kernel_rfl) (by kernel_rfl) (fun _ _ _ h => h) (Or.inl ⟨by rfl, ?_⟩) (by assumption) ?_
  rotate_left 1
  · (intro W hSW; (try dsimp only at hSW); first | (go_simp; done) | (go_simp; with_reducible rfl))
  try simp only [Act.put, List.setIfInBounds_toArray, List.set_cons_zero, List.set_cons_succ]
  refine wpAnyH_take (i := 20) (oi := { dst := some 130, op := Op.load 27 (Operand.tmp 7), type := 27, pos := "law.go:108", after := #[{ on := 12, ground := Ground.guard }], guard := some (12, false) }) (v := ?_) rfl (by kernel_rfl) (by kernel_rfl) (by kernel_rfl) (fun _ _ _ h => h) (Or.inl ⟨by rfl, ?_⟩) (by assumption) ?_
  rotate_left 1
  · (intro W hSW; (try dsimp only at hSW); first | (go_simp; done) | (go_simp; with_reducible rfl))
  try simp only [Act.put, List.setIfInBounds_toArray, List.set_cons_zero, List.set_cons_succ]
  refine wpAnyH_ready (rs := [15]) (by kernel_rfl) (by simp) ?_
  refine (AllReadyH.cons (o := { dst := some 125, op := Op.call { callee := Callee.value (Operand.func 31), args := #[Operand.tmp 123, Operand.tmp 124], argTypes := #[27, 27] }, type := 27, pos := "law.go:108", after := #[{ on := 13, ground := Ground.data }, { on := 14, ground := Ground.data }, { on := 12, ground := Ground.chain }, { on := 12, ground := Ground.guard }], guard := some (12, false) }) rfl (fun K hK => ?_) AllReadyH.nil)
  rw [if_pos (by rfl)]
  go_simp
  go_at_call 31
  refine (diffV (k : Nat) (k : Nat) vL4.out vL6.out hn5 hk3 (by rw [← EL4.out, ← EL6.out]; exact EL27.out) ZL4.out ZL6.out ZL27.out _ _ _ _ _ (Hr1.out.grown hgr10) (Hr3.out.grown hgr10)).mono ?_
  rintro e wc15 ⟨xr35, yr35, rfl, hrr35, gc15⟩
  have hgr15 := World.grownBy.trans hgr10 gc15
  go_wp2_with fail
  refine hK.out _ _ (HS.out _ hgr15) (fun hHeld => ?_)
  clear hK K
  try simp only [Act.put, List.setIfInBounds_toArray, List.set_cons_zero, List.set_cons_succ]
  refine wpAnyH_ready (rs := [18]) (by kernel_rfl) (by simp) ?_
  refine (AllReadyH.cons (o := { dst := some 128, op := Op.call { callee := Callee.value (Operand.func 31), args := #[Operand.tmp 126, Operand.tmp 127], argTypes := #[27, 27] }, type := 27, pos := "law.go:108", after := #[{ on := 16, ground := Ground.data }, { on := 17, ground := Ground.data }, { on := 15, ground := Ground.chain }, { on := 12, ground := Ground.guard }], guard := some (12, false) }) rfl (fun K hK => ?_) AllReadyH.nil)
  rw [if_pos (by rfl)]
  go_simp
  go_at_call 31
  refine (diffV (k : Nat) (k : Nat) vL4.out vL1.out hn5 hk3 (by rw [← EL4.out, ← EL1.out]; exact EL24.out) ZL4.out ZL1.out ZL24.out _ _ _ _ _ (Hr1.out.grown hgr15) (Ha.out.grown hgr15)).mono ?_
  rintro e wc18 ⟨xr36, yr36, rfl, hrr36, gc18⟩
  have hgr18 := World.grownBy.trans hgr15 gc18
  go_wp2_with fail
  refine hK.out _ _ (HS.out _ hgr18) (fun hHeld => ?_)
  clear hK K
  try simp only [Act.put, List.setIfInBounds_toArray, List.set_cons_zero, List.set_cons_succ]
  refine wpAnyH_ready (rs := [21]) (by kernel_rfl) (by simp) ?_
  refine (AllReadyH.cons (o := { dst := some 131, op := Op.call { callee := Callee.value (Operand.func 31), args := #[Operand.tmp 129, Operand.tmp 130], argTypes := #[27, 27] }, type := 27, pos := "law.go:108", after := #[{ on := 19, ground := Ground.data }, { on := 20, ground := Ground.data }, { on := 18, ground := Ground.chain }, { on := 12, ground := Ground.guard }], guard := some (12, false) }) rfl (fun K hK => ?_) AllReadyH.nil)
  rw [if_pos (by rfl)]
  go_simp
  go_at_call 31
  refine (diffV (k : Nat) (k : Nat) vL4.out vL2.out hn5 hk3 (by rw [← EL4.out, ← EL2.out]; exact EL25.out) ZL4.out ZL2.out ZL25.out _ _ _ _ _ (Hr1.out.grown hgr18) (Hb.out.grown hgr18)).mono ?_
  rintro e wc21 ⟨xr37, yr37, rfl, hrr37, gc21⟩
  have hgr21 := World.grownBy.trans hgr18 gc21
  go_wp2_with fail
  refine hK.out _ _ (HS.out _ hgr21) (fun hHeld => ?_)
  clear hK K
  try simp only [Act.put, List.setIfInBounds_toArray, List.set_cons_zero, List.set_cons_succ]
  refine wpAnyH_ready (rs := [22]) (by kernel_rfl) (by simp) ?_
  refine (AllReadyH.cons (o := { dst := some 132, op := Op.call { callee := Callee.value (Operand.func 27), args := #[Operand.tmp 128, Operand.tmp 131], argTypes := #[27, 27] }, type := 27, pos := "law.go:108", after := #[{ on := 18, ground := Ground.data }, { on := 21, ground := Ground.data }, { on := 21, ground := Ground.chain }, { on := 12, ground := Ground.guard }], guard := some (12, false) }) rfl (fun K hK => ?_) AllReadyH.nil)
  rw [if_pos (by rfl)]
  go_simp
  go_at_call 27
  refine (unionV (k : Nat) (k : Nat) vL24.out vL25.out hn5 hk3 (by rw [← EL24.out, ← EL25.out]; exact EL28.out) ZL24.out ZL25.out ZL28.out _ _ _ _ _ (hrr36.grown gc21) hrr37).mono ?_
  rintro e wc22 ⟨xr38, yr38, rfl, hrr38, gc22⟩
  have hgr22 := World.grownBy.trans hgr21 gc22
  go_wp2_with fail
  refine hK.out _ _ (HS.out _ hgr22) (fun hHeld => ?_)
  clear hK K
  try simp only [Act.put, List.setIfInBounds_toArray, List.set_cons_zero, List.set_cons_succ]
  refine wpAnyH_ready (rs := [23]) (by kernel_rfl) (by simp) ?_
  refine (AllReadyH.cons (o := { dst := some 133, op := Op.call { callee := Callee.value (Operand.func 19), args := #[Operand.tmp 125, Operand.tmp 132], argTypes := #[27, 27] }, type := 4, pos := "law.go:108", after := #[{ on := 15, ground := Ground.data }, { on := 22, ground := Ground.data }, { on := 22, ground := Ground.chain }, { on := 12, ground := Ground.guard }], guard := some (12, false) }) rfl (fun K hK => ?_) AllReadyH.nil)
  rw [if_pos (by rfl)]
  go_simp
  go_at_call 19
  refine (equalV (k := k) (Q := true) (k : Nat) (k : Nat) vL27.out hn5 hk3 (eqQ _ Q39.out) ZL27.out ZL28.out _ _ _ _ _ (hrr35.grown (World.grownBy.trans (World.grownBy.trans gc18 gc21) gc22)) hrr38).mono ?_
  rintro e wc23 ⟨rfl, gc23⟩
  have hgr23 := World.grownBy.trans hgr22 gc23
  go_wp2_with fail
  refine hK.out _ _ (HS.out _ hgr23) (fun hHeld => ?_)
  clear hK K
  try simp only [Act.put, List.setIfInBounds_toArray, List.set_cons_zero, List.set_cons_succ]
  refine wpAnyH_take (i := 24) (oi := { dst := some 134, op := Op.unOp UnOp.not 4 (Operand.tmp 133), type := 4, pos := "law.go:108", after := #[{ on := 23, ground := Ground.data }, { on := 12, ground := Ground.guard }], guard := some (12, false) }) (v := ?_) rfl (by kernel_rfl) (by kernel_rfl) (by kernel_rfl) (fun _ _ _ h => h) (Or.inl ⟨by rfl, ?_⟩) (by assumption) ?_
  rotate_left 1
  · (intro W hSW; (try dsimp only at hSW); first | (go_simp; done) | (go_simp; with_reducible rfl))
  try simp only [Act.put, List.setIfInBounds_toArray, List.set_cons_zero, List.set_cons_succ]
  refine wpAnyH_take (i := 25) (oi := { dst := some 135, op := Op.pick (Operand.tmp 122) (Operand.const (Value.bool true)) (Operand.tmp 134), type := 4, pos := "law.go:108", after := #[{ on := 12, ground := Ground.data }, { on := 24, ground := Ground.data }], guard := none }) (v := ?_) rfl (by kernel_rfl) (by kernel_rfl) (by kernel_rfl) (fun _ _ _ h => h) (Or.inl ⟨by rfl, ?_⟩) (by assumption) ?_
  rotate_left 1
  · (intro W hSW; (try dsimp only at hSW); first | (go_simp; done) | (go_simp; with_reducible rfl))
  try simp only [Act.put, List.setIfInBounds_toArray, List.set_cons_zero, List.set_cons_succ]
  refine wpAnyH_done (by kernel_rfl) ?_ _
  have hEND := hgr23
  clear hHeld
  obtain ⟨V17, rfl⟩ : ∃ z, z = wc23 := ⟨_, rfl⟩
  replace Ha := Lib.hid (Ha.out.grown hEND)
  replace Hb := Lib.hid (Hb.out.grown hEND)
  replace Hc := Lib.hid (Hc.out.grown hEND)
  replace Hr1 := Lib.hid (Hr1.out.grown hEND)
  replace Hr2 := Lib.hid (Hr2.out.grown hEND)
  replace Hr3 := Lib.hid (Hr3.out.grown hEND)
  replace HB6 := Lib.hid (And.intro (World.grownBy.cell hEND HB6.out.1 (by simp)) (World.grownBy.cell hEND HB6.out.2 (by simp)))
  replace HB7 := Lib.hid (And.intro (World.grownBy.cell hEND HB7.out.1 (by simp)) (World.grownBy.cell hEND HB7.out.2 (by simp)))
  replace HB8 := Lib.hid (And.intro (World.grownBy.cell hEND HB8.out.1 (by simp)) (World.grownBy.cell hEND HB8.out.2 (by simp)))
  replace HB9 := Lib.hid (And.intro (World.grownBy.cell hEND HB9.out.1 (by simp)) (World.grownBy.cell hEND HB9.out.2 (by simp)))
  replace HB10 := Lib.hid (And.intro (World.grownBy.cell hEND HB10.out.1 (by simp)) (World.grownBy.cell hEND HB10.out.2 (by simp)))
  replace HB11 := Lib.hid (And.intro (World.grownBy.cell hEND HB11.out.1 (by simp)) (World.grownBy.cell hEND HB11.out.2 (by simp)))
  replace HG := Lib.hid (World.grownBy.trans HG.out hEND)
  clear hEND HS hrr30 hrr31 hrr32 hrr33 hrr35 hrr36 hrr37 hrr38 hdr hgr2 hgr5 hgr8 hgr9 hgr10 hgr15 hgr18 hgr21 hgr22 hgr23 gc2 gc5 gc8 gc9 gc10 gc15 gc18 gc21 gc22 gc23
  have qB60 := HB6.out.1
  have qB61 := HB6.out.2
  have qB70 := HB7.out.1
  have qB71 := HB7.out.2
  have qB80 := HB8.out.1
  have qB81 := HB8.out.2
  have qB90 := HB9.out.1
  have qB91 := HB9.out.2
  have qB100 := HB10.out.1
  have qB101 := HB10.out.2
  have qB110 := HB11.out.1
  have qB111 := HB11.out.2
  go_upto_region 19 with fail
  clear qB60 qB61 qB70 qB71 qB80 qB81 qB90 qB91 qB100 qB101 qB110 qB111
  have hsum1 := HSUM.out.1
  have hsum2 := HSUM.out.2
  have HS := Lib.hid (fun (Wh : World) (hWh : V17.grownBy Wh none) => (⟨hWh, hWh.cell HB6.out.1 (by simp), hWh.cell HB6.out.2 (by simp), hWh.cell HB7.out.1 (by simp), hWh.cell HB7.out.2 (by simp), hWh.cell HB8.out.1 (by simp), hWh.cell HB8.out.2 (by simp), hWh.cell HB9.out.1 (by simp), hWh.cell HB9.out.2 (by simp), hWh.cell HB10.out.1 (by simp), hWh.cell HB10.out.2 (by simp), hWh.cell HB11.out.1 (by simp), hWh.cell HB11.out.2 (by simp)⟩ : (fun Wh : World => V17.grownBy Wh none ∧ Wh.cell? ⟨bB6, 0, none⟩ = some (.int .i64 (k : Nat)) ∧ Wh.cell? ⟨bB6, 1, none⟩ = some (.slice xa lL1 ya) ∧ Wh.cell? ⟨bB7, 0, none⟩ = some (.int .i64 (k : Nat)) ∧ Wh.cell? ⟨bB7, 1, none⟩ = some (.slice xb lL2 yb) ∧ Wh.cell? ⟨bB8, 0, none⟩ = some (.int .i64 (k : Nat)) ∧ Wh.cell? ⟨bB8, 1, none⟩ = some (.slice xc lL3 yc) ∧ Wh.cell? ⟨bB9, 0, none⟩ = some (.int .i64 (k : Nat)) ∧ Wh.cell? ⟨bB9, 1, none⟩ = some (.slice xr1 lL4 yr1) ∧ Wh.cell? ⟨bB10, 0, none⟩ = some (.int .i64 (k : Nat)) ∧ Wh.cell? ⟨bB10, 1, none⟩ = some (.slice xr2 lL5 yr2) ∧ Wh.cell? ⟨bB11, 0, none⟩ = some (.int .i64 (k : Nat)) ∧ Wh.cell? ⟨bB11, 1, none⟩ = some (.slice xr3 lL6 yr3)) Wh))
  have hdr : V17.grownBy V17.drew none := ⟨rfl, rfl, rfl, Nat.le_refl _, fun _ _ _ => rfl⟩
  refine wp_region_held_drew (S := (fun Wh : World => V17.grownBy Wh none ∧ Wh.cell? ⟨bB6, 0, none⟩ = some (.int .i64 (k : Nat)) ∧ Wh.cell? ⟨bB6, 1, none⟩ = some (.slice xa lL1 ya) ∧ Wh.cell? ⟨bB7, 0, none⟩ = some (.int .i64 (k : Nat)) ∧ Wh.cell? ⟨bB7, 1, none⟩ = some (.slice xb lL2 yb) ∧ Wh.cell? ⟨bB8, 0, none⟩ = some (.int .i64 (k : Nat)) ∧ Wh.cell? ⟨bB8, 1, none⟩ = some (.slice xc lL3 yc) ∧ Wh.cell? ⟨bB9, 0, none⟩ = some (.int .i64 (k : Nat)) ∧ Wh.cell? ⟨bB9, 1, none⟩ = some (.slice xr1 lL4 yr1) ∧ Wh.cell? ⟨bB10, 0, none⟩ = some (.int .i64 (k : Nat)) ∧ Wh.cell? ⟨bB10, 1, none⟩ = some (.slice xr2 lL5 yr2) ∧ Wh.cell? ⟨bB11, 0, none⟩ = some (.int .i64 (k : Nat)) ∧ Wh.cell? ⟨bB11, 1, none⟩ = some (.slice xr3 lL6 yr3))) (by kernel_rfl) (HS.out _ hdr) (fun hHeld => ?_)
  refine wpAnyH_take (i := 0) (oi := { dst := some 136, op := Op.move (Operand.tmp 3), type := 4, pos := "law.go:111", after := #[], guard := none }) (v := ?_) rfl (by kernel_rfl) (by kernel_rfl) (by kernel_rfl) (fun _ _ _ h => h) (Or.inl ⟨by rfl, ?_⟩) (by assumption) ?_
  rotate_left 1
  · (intro W hSW; (try dsimp only at hSW); first | (go_simp; done) | (go_simp; with_reducible rfl))
  try simp only [Act.put, List.setIfInBounds_toArray, List.set_cons_zero, List.set_cons_succ]
  refine wpAnyH_take (i := 1) (oi := { dst := some 137, op := Op.move (Operand.tmp 136), type := 4, pos := "law.go:111", after := #[{ on := 0, ground := Ground.data }], guard := none }) (v := ?_) rfl (by kernel_rfl) (by kernel_rfl) (by kernel_rfl) (fun _ _ _ h => h) (Or.inl ⟨by rfl, ?_⟩) (by assumption) ?_
  rotate_left 1
  · (intro W hSW; (try dsimp only at hSW); first | (go_simp; done) | (go_simp; with_reducible rfl))
  try simp only [Act.put, List.setIfInBounds_toArray, List.set_cons_zero, List.set_cons_succ]
  refine wpAnyH_take (i := 2) (oi := { dst := some 138, op := Op.load 27 (Operand.tmp 6), type := 27, pos := "law.go:111", after := #[{ on := 1, ground := Ground.guard }], guard := some (1, true) }) (v := ?_) rfl (by kernel_rfl) (by kernel_rfl) (by kernel_rfl) (fun _ _ _ h => h) (Or.inl ⟨by rfl, ?_⟩) (by assumption) ?_
  rotate_left 1
  · (intro W hSW; (try dsimp only at hSW); first | (go_simp; done) | (go_simp; with_reducible rfl))
  try simp only [Act.put, List.setIfInBounds_toArray, List.set_cons_zero, List.set_cons_succ]
  refine wpAnyH_take (i := 3) (oi := { dst := some 139, op := Op.load 27 (Operand.tmp 7), type := 27, pos := "law.go:111", after := #[{ on := 1, ground := Ground.guard }], guard := some (1, true) }) (v := ?_) rfl (by kernel_rfl) (by kernel_rfl) (by kernel_rfl) (fun _ _ _ h => h) (Or.inl ⟨by rfl, ?_⟩) (by assumption) ?_
  rotate_left 1
  · (intro W hSW; (try dsimp only at hSW); first | (go_simp; done) | (go_simp; with_reducible rfl))
  try simp only [Act.put, List.setIfInBounds_toArray, List.set_cons_zero, List.set_cons_succ]
  refine wpAnyH_take (i := 5) (oi := { dst := some 141, op := Op.load 27 (Operand.tmp 11), type := 27, pos := "law.go:111", after := #[{ on := 1, ground := Ground.guard }], guard := some (1, true) }) (v := ?_) rfl (by kernel_rfl) (by kernel_rfl) (by kernel_rfl) (fun _ _ _ h => h) (Or.inl ⟨by rfl, ?_⟩) (by assumption) ?_
  rotate_left 1
  · (intro W hSW; (try dsimp only at hSW); first | (go_simp; done) | (go_simp; with_reducible rfl))
  try simp only [Act.put, List.setIfInBounds_toArray, List.set_cons_zero, List.set_cons_succ]
  refine wpAnyH_take (i := 6) (oi := { dst := some 142, op := Op.load 27 (Operand.tmp 6), type := 27, pos := "law.go:111", after := #[{ on := 1, ground := Ground.guard }], guard := some (1, true) }) (v := ?_) rfl (by kernel_rfl) (by kernel_rfl) (by kernel_rfl) (fun _ _ _ h => h) (Or.inl ⟨by rfl, ?_⟩) (by assumption) ?_
  rotate_left 1
  · (intro W hSW; (try dsimp only at hSW); first | (go_simp; done) | (go_simp; with_reducible rfl))
  try simp only [Act.put, List.setIfInBounds_toArray, List.set_cons_zero, List.set_cons_succ]
  refine wpAnyH_ready (rs := [4]) (by kernel_rfl) (by simp) ?_
  refine (AllReadyH.cons (o := { dst := some 140, op := Op.call { callee := Callee.value (Operand.func 35), args := #[Operand.tmp 138, Operand.tmp 139], argTypes := #[27, 27] }, type := 4, pos := "law.go:111", after := #[{ on := 2, ground := Ground.data }, { on := 3, ground := Ground.data }, { on := 1, ground := Ground.chain }, { on := 1, ground := Ground.guard }], guard := some (1, true) }) rfl (fun K hK => ?_) AllReadyH.nil)
  rw [if_pos (by rfl)]
  go_simp
  go_at_call 35
  refine (inV (k := k) (Q := Q) (k : Nat) (k : Nat) vL1.out vL2.out hn5 hk3 Q40.out ZL1.out ZL2.out _ _ _ _ _ (Ha.out.grown hdr) (Hb.out.grown hdr)).mono ?_
  rintro e wc4 ⟨rfl, gc4⟩
  have hgr4 := World.grownBy.trans hdr gc4
  go_wp2_with fail
  refine hK.out _ _ (HS.out _ hgr4) (fun hHeld => ?_)
  clear hK K
  try simp only [Act.put, List.setIfInBounds_toArray, List.set_cons_zero, List.set_cons_succ]
  refine wpAnyH_ready (rs := [7]) (by kernel_rfl) (by simp) ?_
  refine (AllReadyH.cons (o := { dst := some 143, op := Op.call { callee := Callee.value (Operand.func 19), args := #[Operand.tmp 141, Operand.tmp 142], argTypes := #[27, 27] }, type := 4, pos := "law.go:111", after := #[{ on := 5, ground := Ground.data }, { on := 6, ground := Ground.data }, { on := 4, ground := Ground.chain }, { on := 1, ground := Ground.guard }], guard := some (1, true) }) rfl (fun K hK => ?_) AllReadyH.nil)
  rw [if_pos (by rfl)]
  go_simp
  go_at_call 19
  refine (equalV (k := k) (Q := Q) (k : Nat) (k : Nat) vL6.out hn5 hk3 (vaQ _ Q41.out) ZL6.out ZL1.out _ _ _ _ _ (Hr3.out.grown hgr4) (Ha.out.grown hgr4)).mono ?_
  rintro e wc7 ⟨rfl, gc7⟩
  have hgr7 := World.grownBy.trans hgr4 gc7
  go_wp2_with fail
  refine hK.out _ _ (HS.out _ hgr7) (fun hHeld => ?_)
  clear hK K
  try simp only [Act.put, List.setIfInBounds_toArray, List.set_cons_zero, List.set_cons_succ]
  refine wpAnyH_take (i := 8) (oi := { dst := some 144, op := Op.binOp BinOp.eql 4 (Operand.tmp 140) (Operand.tmp 143) 4, type := 4, pos := "law.go:111", after := #[{ on := 4, ground := Ground.data }, { on := 7, ground := Ground.data }, { on := 1, ground := Ground.guard }], guard := some (1, true) }) (v := ?_) rfl (by kernel_rfl) (by kernel_rfl) (by kernel_rfl) (fun _ _ _ h => h) (Or.inl ⟨by rfl, ?_⟩) (by assumption) ?_
  rotate_left 1
  · (intro W hSW; (try dsimp only at hSW); first | (go_simp; done) | (go_simp; with_reducible rfl))
  try simp only [Act.put, List.setIfInBounds_toArray, List.set_cons_zero, List.set_cons_succ]
  refine wpAnyH_take (i := 9) (oi := { dst := some 145, op := Op.pick (Operand.tmp 137) (Operand.tmp 144) (Operand.const (Value.bool false)), type := 4, pos := "law.go:111", after := #[{ on := 1, ground := Ground.data }, { on := 8, ground := Ground.data }], guard := none }) (v := ?_) rfl (by kernel_rfl) (by kernel_rfl) (by kernel_rfl) (fun _ _ _ h => h) (Or.inl ⟨by rfl, ?_⟩) (by assumption) ?_
  rotate_left 1
  · (intro W hSW; (try dsimp only at hSW); first | (go_simp; done) | (go_simp; with_reducible rfl))
  try simp only [Act.put, List.setIfInBounds_toArray, List.set_cons_zero, List.set_cons_succ]
  refine wpAnyH_take (i := 10) (oi := { dst := some 146, op := Op.move (Operand.tmp 145), type := 4, pos := "law.go:111", after := #[{ on := 9, ground := Ground.data }, { on := 7, ground := Ground.chain }], guard := none }) (v := ?_) rfl (by kernel_rfl) (by kernel_rfl) (by kernel_rfl) (fun _ _ _ h => h) (Or.inl ⟨by rfl, ?_⟩) (by assumption) ?_
  rotate_left 1
  · (intro W hSW; (try dsimp only at hSW); first | (go_simp; done) | (go_simp; with_reducible rfl))
  try simp only [Act.put, List.setIfInBounds_toArray, List.set_cons_zero, List.set_cons_succ]
  refine wpAnyH_take (i := 11) (oi := { dst := some 147, op := Op.load 27 (Operand.tmp 11), type := 27, pos := "law.go:111", after := #[{ on := 10, ground := Ground.guard }], guard := some (10, true) }) (v := ?_) rfl (by kernel_rfl) (by kernel_rfl) (by kernel_rfl) (fun _ _ _ h => h) (Or.inl ⟨by rfl, ?_⟩) (by assumption) ?_
  rotate_left 1
  · (intro W hSW; (try dsimp only at hSW); first | (go_simp; done) | (go_simp; with_reducible rfl))
  try simp only [Act.put, List.setIfInBounds_toArray, List.set_cons_zero, List.set_cons_succ]
  refine wpAnyH_take (i := 12) (oi := { dst := some 148, op := Op.load 27 (Operand.tmp 6), type := 27, pos := "law.go:111", after := #[{ on := 10, ground := Ground.guard }], guard := some (10, true) }) (v := ?_) rfl (by kernel_rfl) (by kernel_rfl) (by kernel_rfl) (fun _ _ _ h => h) (Or.inl ⟨by rfl, ?_⟩) (by assumption) ?_
  rotate_left 1
  · (intro W hSW; (try dsimp only at hSW); first | (go_simp; done) | (go_simp; with_reducible rfl))
  try simp only [Act.put, List.setIfInBounds_toArray, List.set_cons_zero, List.set_cons_succ]
  refine wpAnyH_ready (rs := [13]) (by kernel_rfl) (by simp) ?_
  refine (AllReadyH.cons (o := { dst := some 149, op := Op.call { callee := Callee.value (Operand.func 35), args := #[Operand.tmp 147, Operand.tmp 148], argTypes := #[27, 27] }, type := 4, pos := "law.go:111", after := #[{ on := 11, ground := Ground.data }, { on := 12, ground := Ground.data }, { on := 10, ground := Ground.chain }, { on := 10, ground := Ground.guard }], guard := some (10, true) }) rfl (fun K hK => ?_) AllReadyH.nil)
  rw [if_pos (by rfl)]
  go_simp
  go_at_call 35
  refine (inV (k := k) (Q := true) (k : Nat) (k : Nat) vL6.out vL1.out hn5 hk3 (decide_eq_true Q42.out) ZL6.out ZL1.out _ _ _ _ _ (Hr3.out.grown hgr7) (Ha.out.grown hgr7)).mono ?_
  rintro e wc13 ⟨rfl, gc13⟩
  have hgr13 := World.grownBy.trans hgr7 gc13
  go_wp2_with fail
  refine hK.out _ _ (HS.out _ hgr13) (fun hHeld => ?_)
  clear hK K
  try simp only [Act.put, List.setIfInBounds_toArray, List.set_cons_zero, List.set_cons_succ]
  refine wpAnyH_take (i := 14) (oi := { dst := some 150, op := Op.pick (Operand.tmp 146) (Operand.tmp 149) (Operand.const (Value.bool false)), type := 4, pos := "law.go:111", after := #[{ on := 10, ground := Ground.data }, { on := 13, ground := Ground.data }], guard := none }) (v := ?_) rfl (by kernel_rfl) (by kernel_rfl) (by kernel_rfl) (fun _ _ _ h => h) (Or.inl ⟨by rfl, ?_⟩) (by assumption) ?_
  rotate_left 1
  · (intro W hSW; (try dsimp only at hSW); first | (go_simp; done) | (go_simp; with_reducible rfl))
  try simp only [Act.put, List.setIfInBounds_toArray, List.set_cons_zero, List.set_cons_succ]
  refine wpAnyH_take (i := 15) (oi := { dst := some 151, op := Op.move (Operand.tmp 150), type := 4, pos := "law.go:111", after := #[{ on := 14, ground := Ground.data }, { on := 13, ground := Ground.chain }], guard := none }) (v := ?_) rfl (by kernel_rfl) (by kernel_rfl) (by kernel_rfl) (fun _ _ _ h => h) (Or.inl ⟨by rfl, ?_⟩) (by assumption) ?_
  rotate_left 1
  · (intro W hSW; (try dsimp only at hSW); first | (go_simp; done) | (go_simp; with_reducible rfl))
  try simp only [Act.put, List.setIfInBounds_toArray, List.set_cons_zero, List.set_cons_succ]
  refine wpAnyH_take (i := 16) (oi := { dst := some 152, op := Op.load 27 (Operand.tmp 6), type := 27, pos := "law.go:111", after := #[{ on := 15, ground := Ground.guard }], guard := some (15, true) }) (v := ?_) rfl (by kernel_rfl) (by kernel_rfl) (by kernel_rfl) (fun _ _ _ h => h) (Or.inl ⟨by rfl, ?_⟩) (by assumption) ?_
  rotate_left 1
  · (intro W hSW; (try dsimp only at hSW); first | (go_simp; done) | (go_simp; with_reducible rfl))
  try simp only [Act.put, List.setIfInBounds_toArray, List.set_cons_zero, List.set_cons_succ]
  refine wpAnyH_take (i := 17) (oi := { dst := some 153, op := Op.load 27 (Operand.tmp 10), type := 27, pos := "law.go:111", after := #[{ on := 15, ground := Ground.guard }], guard := some (15, true) }) (v := ?_) rfl (by kernel_rfl) (by kernel_rfl) (by kernel_rfl) (fun _ _ _ h => h) (Or.inl ⟨by rfl, ?_⟩) (by assumption) ?_
  rotate_left 1
  · (intro W hSW; (try dsimp only at hSW); first | (go_simp; done) | (go_simp; with_reducible rfl))
  try simp only [Act.put, List.setIfInBounds_toArray, List.set_cons_zero, List.set_cons_succ]
  refine wpAnyH_ready (rs := [18]) (by kernel_rfl) (by simp) ?_
  refine (AllReadyH.cons (o := { dst := some 154, op := Op.call { callee := Callee.value (Operand.func 35), args := #[Operand.tmp 152, Operand.tmp 153], argTypes := #[27, 27] }, type := 4, pos := "law.go:111", after := #[{ on := 16, ground := Ground.data }, { on := 17, ground := Ground.data }, { on := 15, ground := Ground.chain }, { on := 15, ground := Ground.guard }], guard := some (15, true) }) rfl (fun K hK => ?_) AllReadyH.nil)
  rw [if_pos (by rfl)]
  go_simp
  go_at_call 35
  refine (inV (k := k) (Q := true) (k : Nat) (k : Nat) vL1.out vL5.out hn5 hk3 (decide_eq_true Q43.out) ZL1.out ZL5.out _ _ _ _ _ (Ha.out.grown hgr13) (Hr2.out.grown hgr13)).mono ?_
  rintro e wc18 ⟨rfl, gc18⟩
  have hgr18 := World.grownBy.trans hgr13 gc18
  go_wp2_with fail
  refine hK.out _ _ (HS.out _ hgr18) (fun hHeld => ?_)
  clear hK K
  try simp only [Act.put, List.setIfInBounds_toArray, List.set_cons_zero, List.set_cons_succ]
  refine wpAnyH_take (i := 19) (oi := { dst := some 155, op := Op.pick (Operand.tmp 151) (Operand.tmp 154) (Operand.const (Value.bool false)), type := 4, pos := "law.go:111", after := #[{ on := 15, ground := Ground.data }, { on := 18, ground := Ground.data }], guard := none }) (v := ?_) rfl (by kernel_rfl) (by kernel_rfl) (by kernel_rfl) (fun _ _ _ h => h) (Or.inl ⟨by rfl, ?_⟩) (by assumption) ?_
  rotate_left 1
  · (intro W hSW; (try dsimp only at hSW); first | (go_simp; done) | (go_simp; with_reducible rfl))
  try simp only [Act.put, List.setIfInBounds_toArray, List.set_cons_zero, List.set_cons_succ]
  refine wpAnyH_take (i := 20) (oi := { dst := some 156, op := Op.move (Operand.tmp 155), type := 4, pos := "law.go:111", after := #[{ on := 19, ground := Ground.data }, { on := 18, ground := Ground.chain }], guard := none }) (v := ?_) rfl (by kernel_rfl) (by kernel_rfl) (by kernel_rfl) (fun _ _ _ h => h) (Or.inl ⟨by rfl, ?_⟩) (by assumption) ?_
  rotate_left 1
  · (intro W hSW; (try dsimp only at hSW); first | (go_simp; done) | (go_simp; with_reducible rfl))
  try simp only [Act.put, List.setIfInBounds_toArray, List.set_cons_zero, List.set_cons_succ]
  refine wpAnyH_take (i := 21) (oi := { dst := some 157, op := Op.load 27 (Operand.tmp 6), type := 27, pos := "law.go:111", after := #[{ on := 20, ground := Ground.guard }], guard := some (20, true) }) (v := ?_) rfl (by kernel_rfl) (by kernel_rfl) (by kernel_rfl) (fun _ _ _ h => h) (Or.inl ⟨by rfl, ?_⟩) (by assumption) ?_
  rotate_left 1
  · (intro W hSW; (try dsimp only at hSW); first | (go_simp; done) | (go_simp; with_reducible rfl))
  try simp only [Act.put, List.setIfInBounds_toArray, List.set_cons_zero, List.set_cons_succ]
  refine wpAnyH_take (i := 22) (oi := { dst := some 158, op := Op.load 27 (Operand.tmp 9), type := 27, pos := "law.go:111", after := #[{ on := 20, ground := Ground.guard }], guard := some (20, true) }) (v := ?_) rfl (by kernel_rfl) (by kernel_rfl) (by kernel_rfl) (fun _ _ _ h => h) (Or.inl ⟨by rfl, ?_⟩) (by assumption) ?_
  rotate_left 1
  · (intro W hSW; (try dsimp only at hSW); first | (go_simp; done) | (go_simp; with_reducible rfl))
  try simp only [Act.put, List.setIfInBounds_toArray, List.set_cons_zero, List.set_cons_succ]
  refine wpAnyH_ready (rs := [23]) (by kernel_rfl) (by simp) ?_
  refine (AllReadyH.cons (o := { dst := some 159, op := Op.call { callee := Callee.value (Operand.func 35), args := #[Operand.tmp 157, Operand.tmp 158], argTypes := #[27, 27] }, type := 4, pos := "law.go:111", after := #[{ on := 21, ground := Ground.data }, { on := 22, ground := Ground.data }, { on := 20, ground := Ground.chain }, { on := 20, ground := Ground.guard }], guard := some (20, true) }) rfl (fun K hK => ?_) AllReadyH.nil)
  rw [if_pos (by rfl)]
  go_simp
  go_at_call 35
  refine (inV (k := k) (Q := true) (k : Nat) (k : Nat) vL1.out vL4.out hn5 hk3 (decide_eq_true Q44.out) ZL1.out ZL4.out _ _ _ _ _ (Ha.out.grown hgr18) (Hr1.out.grown hgr18)).mono ?_
  rintro e wc23 ⟨rfl, gc23⟩
  have hgr23 := World.grownBy.trans hgr18 gc23
  go_wp2_with fail
  refine hK.out _ _ (HS.out _ hgr23) (fun hHeld => ?_)
  clear hK K
  try simp only [Act.put, List.setIfInBounds_toArray, List.set_cons_zero, List.set_cons_succ]
  refine wpAnyH_take (i := 24) (oi := { dst := some 160, op := Op.pick (Operand.tmp 156) (Operand.tmp 159) (Operand.const (Value.bool false)), type := 4, pos := "law.go:111", after := #[{ on := 20, ground := Ground.data }, { on := 23, ground := Ground.data }], guard := none }) (v := ?_) rfl (by kernel_rfl) (by kernel_rfl) (by kernel_rfl) (fun _ _ _ h => h) (Or.inl ⟨by rfl, ?_⟩) (by assumption) ?_
  rotate_left 1
  · (intro W hSW; (try dsimp only at hSW); first | (go_simp; done) | (go_simp; with_reducible rfl))
  try simp only [Act.put, List.setIfInBounds_toArray, List.set_cons_zero, List.set_cons_succ]
  refine wpAnyH_take (i := 25) (oi := { dst := some 161, op := Op.move (Operand.tmp 160), type := 4, pos := "law.go:111", after := #[{ on := 24, ground := Ground.data }, { on := 23, ground := Ground.chain }], guard := none }) (v := ?_) rfl (by kernel_rfl) (by kernel_rfl) (by kernel_rfl) (fun _ _ _ h => h) (Or.inl ⟨by rfl, ?_⟩) (by assumption) ?_
  rotate_left 1
  · (intro W hSW; (try dsimp only at hSW); first | (go_simp; done) | (go_simp; with_reducible rfl))
  try simp only [Act.put, List.setIfInBounds_toArray, List.set_cons_zero, List.set_cons_succ]
  refine wpAnyH_take (i := 26) (oi := { dst := some 162, op := Op.fieldAddr 27 (Operand.tmp 10) 1, type := 0, pos := "law.go:111", after := #[{ on := 25, ground := Ground.guard }], guard := some (25, true) }) (v := ?_) rfl (by kernel_rfl) (by kernel_rfl) (by kernel_rfl) (fun _ _ _ h => h) (Or.inl ⟨by rfl, ?_⟩) (by assumption) ?_
  rotate_left 1
  · (intro W hSW; (try dsimp only at hSW); first | (go_simp; done) | (go_simp; with_reducible rfl))
  try simp only [Act.put, List.setIfInBounds_toArray, List.set_cons_zero, List.set_cons_succ]
  refine wpAnyH_take (i := 27) (oi := { dst := some 163, op := Op.load 25 (Operand.tmp 162), type := 25, pos := "law.go:111", after := #[{ on := 26, ground := Ground.data }, { on := 25, ground := Ground.guard }], guard := some (25, true) }) (v := ?_) rfl (by kernel_rfl) (by kernel_rfl) (by kernel_rfl) (fun _ _ _ h => h) (Or.inl ⟨by rfl, ?_⟩) (by assumption) ?_
  rotate_left 1
  · (intro W hSW; (try dsimp only at hSW); first | (go_simp; done) | (go_simp; with_reducible rfl))
  try simp only [Act.put, List.setIfInBounds_toArray, List.set_cons_zero, List.set_cons_succ]
  refine wpAnyH_take (i := 28) (oi := { dst := some 164, op := Op.call { callee := Callee.builtin Builtin.len, args := #[Operand.tmp 163], argTypes := #[25] }, type := 3, pos := "law.go:111", after := #[{ on := 27, ground := Ground.data }, { on := 25, ground := Ground.guard }], guard := some (25, true) }) (v := ?_) rfl (by kernel_rfl) (by kernel_rfl) (by kernel_rfl) (fun _ _ _ h => h) (Or.inl ⟨by rfl, ?_⟩) (by assumption) ?_
  rotate_left 1
  · (intro W hSW; (try dsimp only at hSW); first | (go_simp; done) | (go_simp; with_reducible rfl))
  try simp only [Act.put, List.setIfInBounds_toArray, List.set_cons_zero, List.set_cons_succ]
  refine wpAnyH_take (i := 29) (oi := { dst := some 165, op := Op.fieldAddr 27 (Operand.tmp 11) 1, type := 0, pos := "law.go:111", after := #[{ on := 25, ground := Ground.guard }], guard := some (25, true) }) (v := ?_) rfl (by kernel_rfl) (by kernel_rfl) (by kernel_rfl) (fun _ _ _ h => h) (Or.inl ⟨by rfl, ?_⟩) (by assumption) ?_
  rotate_left 1
  · (intro W hSW; (try dsimp only at hSW); first | (go_simp; done) | (go_simp; with_reducible rfl))
  try simp only [Act.put, List.setIfInBounds_toArray, List.set_cons_zero, List.set_cons_succ]
  refine wpAnyH_take (i := 30) (oi := { dst := some 166, op := Op.load 25 (Operand.tmp 165), type := 25, pos := "law.go:111", after := #[{ on := 29, ground := Ground.data }, { on := 25, ground := Ground.guard }], guard := some (25, true) }) (v := ?_) rfl (by kernel_rfl) (by kernel_rfl) (by kernel_rfl) (fun _ _ _ h => h) (Or.inl ⟨by rfl, ?_⟩) (by assumption) ?_
  rotate_left 1
  · (intro W hSW; (try dsimp only at hSW); first | (go_simp; done) | (go_simp; with_reducible rfl))
  try simp only [Act.put, List.setIfInBounds_toArray, List.set_cons_zero, List.set_cons_succ]
  refine wpAnyH_take (i := 31) (oi := { dst := some 167, op := Op.call { callee := Callee.builtin Builtin.len, args := #[Operand.tmp 166], argTypes := #[25] }, type := 3, pos := "law.go:111", after := #[{ on := 30, ground := Ground.data }, { on := 25, ground := Ground.guard }], guard := some (25, true) }) (v := ?_) rfl (by kernel_rfl) (by kernel_rfl) (by kernel_rfl) (fun _ _ _ h => h) (Or.inl ⟨by rfl, ?_⟩) (by assumption) ?_
  rotate_left 1
  · (intro W hSW; (try dsimp only at hSW); first | (go_simp; done) | (go_simp; with_reducible rfl))
  try simp only [Act.put, List.setIfInBounds_toArray, List.set_cons_zero, List.set_cons_succ]
  refine wpAnyH_take (i := 32) (oi := { dst := some 168, op := Op.binOp BinOp.add 3 (Operand.tmp 164) (Operand.tmp 167) 3, type := 3, pos := "law.go:111", after := #[{ on := 28, ground := Ground.data }, { on := 31, ground := Ground.data }, { on := 25, ground := Ground.guard }], guard := some (25, true) }) (v := ?_) rfl (by kernel_rfl) (by kernel_rfl) (by kernel_rfl) (fun _ _ _ h => h) (Or.inl ⟨by rfl, ?_⟩) (by assumption) ?_
  rotate_left 1
  · (intro W hSW; (try dsimp only at hSW); first | (go_simp; done) | (go_simp; with_reducible rfl))
  try simp only [Act.put, List.setIfInBounds_toArray, List.set_cons_zero, List.set_cons_succ]
  refine wpAnyH_take (i := 33) (oi := { dst := some 169, op := Op.fieldAddr 27 (Operand.tmp 6) 1, type := 0, pos := "law.go:111", after := #[{ on := 25, ground := Ground.guard }], guard := some (25, true) }) (v := ?_) rfl (by kernel_rfl) (by kernel_rfl) (by kernel_rfl) (fun _ _ _ h => h) (Or.inl ⟨by rfl, ?_⟩) (by assumption) ?_
  rotate_left 1
  · (intro W hSW; (try dsimp only at hSW); first | (go_simp; done) | (go_simp; with_reducible rfl))
  try simp only [Act.put, List.setIfInBounds_toArray, List.set_cons_zero, List.set_cons_succ]
  refine wpAnyH_take (i := 34) (oi := { dst := some 170, op := Op.load 25 (Operand.tmp 169), type := 25, pos := "law.go:111", after := #[{ on := 33, ground := Ground.data }, { on := 25, ground := Ground.guard }], guard := some (25, true) }) (v := ?_) rfl (by kernel_rfl) (by kernel_rfl) (by kernel_rfl) (fun _ _ _ h => h) (Or.inl ⟨by rfl, ?_⟩) (by assumption) ?_
  rotate_left 1
  · (intro W hSW; (try dsimp only at hSW); first | (go_simp; done) | (go_simp; with_reducible rfl))
  try simp only [Act.put, List.setIfInBounds_toArray, List.set_cons_zero, List.set_cons_succ]
  refine wpAnyH_take (i := 35) (oi := { dst := some 171, op := Op.call { callee := Callee.builtin Builtin.len, args := #[Operand.tmp 170], argTypes := #[25] }, type := 3, pos := "law.go:111", after := #[{ on := 34, ground := Ground.data }, { on := 25, ground := Ground.guard }], guard := some (25, true) }) (v := ?_) rfl (by kernel_rfl) (by kernel_rfl) (by kernel_rfl) (fun _ _ _ h => h) (Or.inl ⟨by rfl, ?_⟩) (by assumption) ?_
  rotate_left 1
  · (intro W hSW; (try dsimp only at hSW); first | (go_simp; done) | (go_simp; with_reducible rfl))
  try simp only [Act.put, List.setIfInBounds_toArray, List.set_cons_zero, List.set_cons_succ]
  refine wpAnyH_take (i := 36) (oi := { dst := some 172, op := Op.fieldAddr 27 (Operand.tmp 7) 1, type := 0, pos := "law.go:111", after := #[{ on := 25, ground := Ground.guard }], guard := some (25, true) }) (v := ?_) rfl (by kernel_rfl) (by kernel_rfl) (by kernel_rfl) (fun _ _ _ h => h) (Or.inl ⟨by rfl, ?_⟩) (by assumption) ?_
  rotate_left 1
  · (intro W hSW; (try dsimp only at hSW); first | (go_simp; done) | (go_simp; with_reducible rfl))
  try simp only [Act.put, List.setIfInBounds_toArray, List.set_cons_zero, List.set_cons_succ]
  refine wpAnyH_take (i := 37) (oi := { dst := some 173, op := Op.load 25 (Operand.tmp 172), type := 25, pos := "law.go:111", after := #[{ on := 36, ground := Ground.data }, { on := 25, ground := Ground.guard }], guard := some (25, true) }) (v := ?_) rfl (by kernel_rfl) (by kernel_rfl) (by kernel_rfl) (fun _ _ _ h => h) (Or.inl ⟨by rfl, ?_⟩) (by assumption) ?_
  rotate_left 1
  · (intro W hSW; (try dsimp only at hSW); first | (go_simp; done) | (go_simp; with_reducible rfl))
  try simp only [Act.put, List.setIfInBounds_toArray, List.set_cons_zero, List.set_cons_succ]
  refine wpAnyH_take (i := 38) (oi := { dst := some 174, op := Op.call { callee := Callee.builtin Builtin.len, args := #[Operand.tmp 173], argTypes := #[25] }, type := 3, pos := "law.go:111", after := #[{ on := 37, ground := Ground.data }, { on := 25, ground := Ground.guard }], guard := some (25, true) }) (v := ?_) rfl (by kernel_rfl) (by kernel_rfl) (by kernel_rfl) (fun _ _ _ h => h) (Or.inl ⟨by rfl, ?_⟩) (by assumption) ?_
  rotate_left 1
  · (intro W hSW; (try dsimp only at hSW); first | (go_simp; done) | (go_simp; with_reducible rfl))
  try simp only [Act.put, List.setIfInBounds_toArray, List.set_cons_zero, List.set_cons_succ]
  refine wpAnyH_take (i := 39) (oi := { dst := some 175, op := Op.binOp BinOp.add 3 (Operand.tmp 171) (Operand.tmp 174) 3, type := 3, pos := "law.go:111", after := #[{ on := 35, ground := Ground.data }, { on := 38, ground := Ground.data }, { on := 25, ground := Ground.guard }], guard := some (25, true) }) (v := ?_) rfl (by kernel_rfl) (by kernel_rfl) (by kernel_rfl) (fun _ _ _ h => h) (Or.inl ⟨by rfl, ?_⟩) (by assumption) ?_
  rotate_left 1
  · (intro W hSW; (try dsimp only at hSW); first | (go_simp; done) | (go_simp; with_reducible rfl))
  try simp only [Act.put, List.setIfInBounds_toArray, List.set_cons_zero, List.set_cons_succ]
  refine wpAnyH_take (i := 40) (oi := { dst := some 176, op := Op.binOp BinOp.eql 3 (Operand.tmp 168) (Operand.tmp 175) 3, type := 4, pos := "law.go:111", after := #[{ on := 32, ground := Ground.data }, { on := 39, ground := Ground.data }, { on := 25, ground := Ground.guard }], guard := some (25, true) }) (v := ?_) rfl (by kernel_rfl) (by kernel_rfl) (by kernel_rfl) (fun _ _ _ h => h) (Or.inl ⟨by rfl, ?_⟩) (by assumption) ?_
  rotate_left 1
  · (intro W hSW; (try dsimp only at hSW); first | (go_simp; done) | (go_simp; with_reducible rfl))
  try simp only [Act.put, List.setIfInBounds_toArray, List.set_cons_zero, List.set_cons_succ]
  refine wpAnyH_take (i := 41) (oi := { dst := some 177, op := Op.pick (Operand.tmp 161) (Operand.tmp 176) (Operand.const (Value.bool false)), type := 4, pos := "law.go:111", after := #[{ on := 25, ground := Ground.data }, { on := 40, ground := Ground.data }], guard := none }) (v := ?_) rfl (by kernel_rfl) (by kernel_rfl) (by kernel_rfl) (fun _ _ _ h => h) (Or.inl ⟨by rfl, ?_⟩) (by assumption) ?_
  rotate_left 1
  · (intro W hSW; (try dsimp only at hSW); first | (go_simp; done) | (go_simp; with_reducible rfl))
  try simp only [Act.put, List.setIfInBounds_toArray, List.set_cons_zero, List.set_cons_succ]
  refine wpAnyH_take (i := 42) (oi := { dst := some 178, op := Op.move (Operand.tmp 177), type := 4, pos := "law.go:111", after := #[{ on := 41, ground := Ground.data }, { on := 25, ground := Ground.chain }], guard := none }) (v := ?_) rfl (by kernel_rfl) (by kernel_rfl) (by kernel_rfl) (fun _ _ _ h => h) (Or.inl ⟨by rfl, ?_⟩) (by assumption) ?_
  rotate_left 1
  · (intro W hSW; (try dsimp only at hSW); first | (go_simp; done) | (go_simp; with_reducible rfl))
  try simp only [Act.put, List.setIfInBounds_toArray, List.set_cons_zero, List.set_cons_succ]
  refine wpAnyH_take (i := 43) (oi := { dst := some 179, op := Op.load 27 (Operand.tmp 6), type := 27, pos := "law.go:111", after := #[{ on := 42, ground := Ground.guard }], guard := some (42, true) }) (v := ?_) rfl (by kernel_rfl) (by kernel_rfl) (by kernel_rfl) (fun _ _ _ h => h) (Or.inl ⟨by rfl, ?_⟩) (by assumption) ?_
  rotate_left 1
  · (intro W hSW; (try dsimp only at hSW); first | (go_simp; done) | (go_simp; with_reducible rfl))
  try simp only [Act.put, List.setIfInBounds_toArray, List.set_cons_zero, List.set_cons_succ]
  refine wpAnyH_take (i := 44) (oi := { dst := some 180, op := Op.load 27 (Operand.tmp 7), type := 27, pos := "law.go:111", after := #[{ on := 42, ground := Ground.guard }], guard := some (42, true) }) (v := ?_) rfl (by kernel_rfl) (by kernel_rfl) (by kernel_rfl) (fun _ _ _ h => h) (Or.inl ⟨by rfl, ?_⟩) (by assumption) ?_
  rotate_left 1
  · (intro W hSW; (try dsimp only at hSW); first | (go_simp; done) | (go_simp; with_reducible rfl))
  try simp only [Act.put, List.setIfInBounds_toArray, List.set_cons_zero, List.set_cons_succ]
  refine wpAnyH_take (i := 46) (oi := { dst := some 182, op := Op.load 27 (Operand.tmp 6), type := 27, pos := "law.go:111", after := #[{ on := 42, ground := Ground.guard }], guard := some (42, true) }) (v := ?_) rfl (by kernel_rfl) (by kernel_rfl) (by kernel_rfl) (fun _ _ _ h => h) (Or.inl ⟨by rfl, ?_⟩) (by assumption) ?_
  rotate_left 1
  · (intro W hSW; (try dsimp only at hSW); first | (go_simp; done) | (go_simp; with_reducible rfl))
  try simp only [Act.put, List.setIfInBounds_toArray, List.set_cons_zero, List.set_cons_succ]
  refine wpAnyH_take (i := 47) (oi := { dst := some 183, op := Op.load 27 (Operand.tmp 11), type := 27, pos := "law.go:111", after := #[{ on := 42, ground := Ground.guard }], guard := some (42, true) }) (v := ?_) rfl (by kernel_rfl) (by kernel_rfl) (by kernel_rfl) (fun _ _ _ h => h) (Or.inl ⟨by rfl, ?_⟩) (by assumption) ?_
  rotate_left 1
  · (intro W hSW; (try dsimp only at hSW); first | (go_simp; done) | (go_simp; with_reducible rfl))
  try simp only [Act.put, List.setIfInBounds_toArray, List.set_cons_zero, List.set_cons_succ]
  refine wpAnyH_ready (rs := [45]) (by kernel_rfl) (by simp) ?_
  refine (AllReadyH.cons (o := { dst := some 181, op := Op.call { callee := Callee.value (Operand.func 31), args := #[Operand.tmp 179, Operand.tmp 180], argTypes := #[27, 27] }, type := 27, pos := "law.go:111", after := #[{ on := 43, ground := Ground.data }, { on := 44, ground := Ground.data }, { on := 42, ground := Ground.chain }, { on := 42, ground := Ground.guard }], guard := some (42, true) }) rfl (fun K hK => ?_) AllReadyH.nil)
  rw [if_pos (by rfl)]
  go_simp
  go_at_call 31
  refine (diffV (k : Nat) (k : Nat) vL1.out vL2.out hn5 hk3 (by rw [← EL1.out, ← EL2.out]; exact EL29.out) ZL1.out ZL2.out ZL29.out _ _ _ _ _ (Ha.out.grown hgr23) (Hb.out.grown hgr23)).mono ?_
  rintro e wc45 ⟨xr45, yr45, rfl, hrr45, gc45⟩
  have hgr45 := World.grownBy.trans hgr23 gc45
  go_wp2_with fail
  refine hK.out _ _ (HS.out _ hgr45) (fun hHeld => ?_)
  clear hK K
  try simp only [Act.put, List.setIfInBounds_toArray, List.set_cons_zero, List.set_cons_succ]
  refine wpAnyH_ready (rs := [48]) (by kernel_rfl) (by simp) ?_
  refine (AllReadyH.cons (o := { dst := some 184, op := Op.call { callee := Callee.value (Operand.func 31), args := #[Operand.tmp 182, Operand.tmp 183], argTypes := #[27, 27] }, type := 27, pos := "law.go:111", after := #[{ on := 46, ground := Ground.data }, { on := 47, ground := Ground.data }, { on := 45, ground := Ground.chain }, { on := 42, ground := Ground.guard }], guard := some (42, true) }) rfl (fun K hK => ?_) AllReadyH.nil)
  rw [if_pos (by rfl)]
  go_simp
  go_at_call 31
  refine (diffV (k : Nat) (k : Nat) vL1.out vL6.out hn5 hk3 (by rw [← EL1.out, ← EL6.out]; exact EL30.out) ZL1.out ZL6.out ZL30.out _ _ _ _ _ (Ha.out.grown hgr45) (Hr3.out.grown hgr45)).mono ?_
  rintro e wc48 ⟨xr46, yr46, rfl, hrr46, gc48⟩
  have hgr48 := World.grownBy.trans hgr45 gc48
  go_wp2_with fail
  refine hK.out _ _ (HS.out _ hgr48) (fun hHeld => ?_)
  clear hK K
  try simp only [Act.put, List.setIfInBounds_toArray, List.set_cons_zero, List.set_cons_succ]
  refine wpAnyH_ready (rs := [49]) (by kernel_rfl) (by simp) ?_
  refine (AllReadyH.cons (o := { dst := some 185, op := Op.call { callee := Callee.value (Operand.func 19), args := #[Operand.tmp 181, Operand.tmp 184], argTypes := #[27, 27] }, type := 4, pos := "law.go:111", after := #[{ on := 45, ground := Ground.data }, { on := 48, ground := Ground.data }, { on := 48, ground := Ground.chain }, { on := 42, ground := Ground.guard }], guard := some (42, true) }) rfl (fun K hK => ?_) AllReadyH.nil)
  rw [if_pos (by rfl)]
  go_simp
  go_at_call 19
  refine (equalV (k := k) (Q := true) (k : Nat) (k : Nat) vL29.out hn5 hk3 (eqQ _ Q47.out) ZL29.out ZL30.out _ _ _ _ _ (hrr45.grown gc48) hrr46).mono ?_
  rintro e wc49 ⟨rfl, gc49⟩
  have hgr49 := World.grownBy.trans hgr48 gc49
  go_wp2_with fail
  refine hK.out _ _ (HS.out _ hgr49) (fun hHeld => ?_)
  clear hK K
  try simp only [Act.put, List.setIfInBounds_toArray, List.set_cons_zero, List.set_cons_succ]
  refine wpAnyH_take (i := 50) (oi := { dst := some 186, op := Op.pick (Operand.tmp 178) (Operand.tmp 185) (Operand.const (Value.bool false)), type := 4, pos := "law.go:111", after := #[{ on := 42, ground := Ground.data }, { on := 49, ground := Ground.data }], guard := none }) (v := ?_) rfl (by kernel_rfl) (by kernel_rfl) (by kernel_rfl) (fun _ _ _ h => h) (Or.inl ⟨by rfl, ?_⟩) (by assumption) ?_
  rotate_left 1
  · (intro W hSW; (try dsimp only at hSW); first | (go_simp; done) | (go_simp; with_reducible rfl))
  try simp only [Act.put, List.setIfInBounds_toArray, List.set_cons_zero, List.set_cons_succ]
  refine wpAnyH_take (i := 51) (oi := { dst := some 2, op := Op.assign (Operand.tmp 186), type := 4, pos := "law.go:111", after := #[{ on := 50, ground := Ground.data }, { on := 49, ground := Ground.chain }, { on := 0, ground := Ground.phase }, { on := 1, ground := Ground.phase }, { on := 2, ground := Ground.phase }, { on := 3, ground := Ground.phase }, { on := 4, ground := Ground.phase }, { on := 5, ground := Ground.phase }, { on := 6, ground := Ground.phase }, { on := 7, ground := Ground.phase }, { on := 8, ground := Ground.phase }, { on := 9, ground := Ground.phase }, { on := 10, ground := Ground.phase }, { on := 11, ground := Ground.phase }, { on := 12, ground := Ground.phase }, { on := 13, ground := Ground.phase }, { on := 14, ground := Ground.phase }, { on := 15, ground := Ground.phase }, { on := 16, ground := Ground.phase }, { on := 17, ground := Ground.phase }, { on := 18, ground := Ground.phase }, { on := 19, ground := Ground.phase }, { on := 20, ground := Ground.phase }, { on := 21, ground := Ground.phase }, { on := 22, ground := Ground.phase }, { on := 23, ground := Ground.phase }, { on := 24, ground := Ground.phase }, { on := 25, ground := Ground.phase }, { on := 26, ground := Ground.phase }, { on := 27, ground := Ground.phase }, { on := 28, ground := Ground.phase }, { on := 29, ground := Ground.phase }, { on := 30, ground := Ground.phase }, { on := 31, ground := Ground.phase }, { on := 32, ground := Ground.phase }, { on := 33, ground := Ground.phase }, { on := 34, ground := Ground.phase }, { on := 35, ground := Ground.phase }, { on := 36, ground := Ground.phase }, { on := 37, ground := Ground.phase }, { on := 38, ground := Ground.phase }, { on := 39, ground := Ground.phase }, { on := 40, ground := Ground.phase }, { on := 41, ground := Ground.phase }, { on := 42, ground := Ground.phase }, { on := 43, ground := Ground.phase }, { on := 44, ground := Ground.phase }, { on := 45, ground := Ground.phase }, { on := 46, ground := Ground.phase }, { on := 47, ground := Ground.phase }, { on := 48, ground := Ground.phase }, { on := 49, ground := Ground.phase }, { on := 50, ground := Ground.phase }], guard := none }) (v := ?_) rfl (by kernel_rfl) (by kernel_rfl) (by kernel_rfl) (fun _ _ _ h => h) (Or.inl ⟨by rfl, ?_⟩) (by assumption) ?_
  rotate_left 1
  · (intro W hSW; (try dsimp only at hSW); first | (go_simp; done) | (go_simp; with_reducible rfl))
  try simp only [Act.put, List.setIfInBounds_toArray, List.set_cons_zero, List.set_cons_succ]
  refine wpAnyH_done (by kernel_rfl) ?_ _
  have hEND := hgr49
  clear hHeld
  have HE := Lib.hid (World.grownBy.trans HG.out hEND)
  clear hEND
  go_wp2_with fail
  go_ret
  exact ⟨rfl, HE.out⟩
end Go.Proofs.Ytkoigonbncpbaaa
