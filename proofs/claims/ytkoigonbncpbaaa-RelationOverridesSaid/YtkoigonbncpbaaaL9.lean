/- RelationOverrides: the law walked. -/
import Derived.Test.YtkoigonbncpbaaaM9b
namespace Go.Proofs.Ytkoigonbncpbaaa
open Go.RowKit Go.Shelf

set_option maxRecDepth 100000 in
set_option maxHeartbeats 20000000 in
theorem overrides_calls (N Ar : Nat) (A0 B0 C0 : List Nat) (aa ab ac : Option Addr) (ca cb cc : Nat) (W0 : World) (h : RawAt W0 N Ar A0 B0 C0 aa ab ac ca cb cc) :
    Calls Try.prog 9 #[.agg #[.int .u8 (N : Int), .int .u8 (Ar : Int), .slice aa A0.length ca, .slice ab B0.length cb, .slice ac C0.length cc]] W0 fun e w' => e = .returned (.bool true) ∧ W0.grownBy w' none := by
  have hAr := h.hAr
  obtain ⟨n, hn⟩ : ∃ n, 1 + N % 5 = n := ⟨_, rfl⟩
  obtain ⟨k, hk⟩ : ∃ k, 1 + Ar % 3 = k := ⟨_, rfl⟩
  have hn1 : 1 ≤ n := by omega
  have hn5 : n ≤ 5 := by omega
  have hk1 : 1 ≤ k := by omega
  have hk3 : k ≤ 3 := by omega
  have hNN := Lib.hid hn; have hKK := Lib.hid hk
  clear hn hk hAr
  have vLE := Lib.hid (VR.nil n k)
  obtain ⟨L1, hL1⟩ : ∃ l : List Int, fromL n k A0 = l := ⟨_, rfl⟩
  have vL1 := Lib.hid (by rw [← hL1]; exact (VR.from n k A0 hn1) : VR n (k) L1)
  obtain ⟨lL1, hlL1⟩ : ∃ l, L1.length = l := ⟨_, rfl⟩
  have EL1 := Lib.hid hL1
  have ZL1 := Lib.hid hlL1
  clear hL1 hlL1
  obtain ⟨L2, hL2⟩ : ∃ l : List Int, fromL n k B0 = l := ⟨_, rfl⟩
  have vL2 := Lib.hid (by rw [← hL2]; exact (VR.from n k B0 hn1) : VR n (k) L2)
  obtain ⟨lL2, hlL2⟩ : ∃ l, L2.length = l := ⟨_, rfl⟩
  have EL2 := Lib.hid hL2
  have ZL2 := Lib.hid hlL2
  clear hL2 hlL2
  obtain ⟨L3, hL3⟩ : ∃ l : List Int, fromL n k C0 = l := ⟨_, rfl⟩
  have vL3 := Lib.hid (by rw [← hL3]; exact (VR.from n k C0 hn1) : VR n (k) L3)
  obtain ⟨lL3, hlL3⟩ : ∃ l, L3.length = l := ⟨_, rfl⟩
  have EL3 := Lib.hid hL3
  have ZL3 := Lib.hid hlL3
  clear hL3 hlL3
  obtain ⟨L4, hL4⟩ : ∃ l : List Int, overL (n ^ (k - 1)) (fromL n k A0) (fromL n k B0) = l := ⟨_, rfl⟩
  have vL4 := Lib.hid (by rw [← hL4]; exact VR.over (by rw [EL1.out]; exact vL1.out) (by rw [EL2.out]; exact vL2.out) : VR n (k) L4)
  obtain ⟨lL4, hlL4⟩ : ∃ l, L4.length = l := ⟨_, rfl⟩
  have EL4 := Lib.hid hL4
  have ZL4 := Lib.hid hlL4
  clear hL4 hlL4
  obtain ⟨L5, hL5⟩ : ∃ l : List Int, overL (n ^ (k - 1)) (fromL n k A0) (([] : List Int)) = l := ⟨_, rfl⟩
  have vL5 := Lib.hid (by rw [← hL5]; exact VR.over (by rw [EL1.out]; exact vL1.out) vLE.out : VR n (k) L5)
  obtain ⟨lL5, hlL5⟩ : ∃ l, L5.length = l := ⟨_, rfl⟩
  have EL5 := Lib.hid hL5
  have ZL5 := Lib.hid hlL5
  clear hL5 hlL5
  have Q3 := Lib.hid (show L5 = L1 from by rw [← EL5.out, ← EL1.out]; exact ov_none (VR.from n k A0 hn1))
  obtain ⟨L6, hL6⟩ : ∃ l : List Int, overL (n ^ (k - 1)) (([] : List Int)) (fromL n k B0) = l := ⟨_, rfl⟩
  have vL6 := Lib.hid (by rw [← hL6]; exact VR.over vLE.out (by rw [EL2.out]; exact vL2.out) : VR n (k) L6)
  obtain ⟨lL6, hlL6⟩ : ∃ l, L6.length = l := ⟨_, rfl⟩
  have EL6 := Lib.hid hL6
  have ZL6 := Lib.hid hlL6
  clear hL6 hlL6
  have Q5 := Lib.hid (show L6 = L2 from by rw [← EL6.out, ← EL2.out]; exact ov_empty (VR.from n k B0 hn1))
  obtain ⟨L7, hL7⟩ : ∃ l : List Int, overL (n ^ (k - 1)) (fromL n k A0) (fromL n k A0) = l := ⟨_, rfl⟩
  have vL7 := Lib.hid (by rw [← hL7]; exact VR.over (by rw [EL1.out]; exact vL1.out) (by rw [EL1.out]; exact vL1.out) : VR n (k) L7)
  obtain ⟨lL7, hlL7⟩ : ∃ l, L7.length = l := ⟨_, rfl⟩
  have EL7 := Lib.hid hL7
  have ZL7 := Lib.hid hlL7
  clear hL7 hlL7
  have Q7 := Lib.hid (show L7 = L1 from by rw [← EL7.out, ← EL1.out]; exact ov_self (VR.from n k A0 hn1))
  have Q8 := Lib.hid (show ∀ z ∈ L2, z ∈ L4 from by rw [← EL2.out, ← EL4.out]; exact ov_in (VR.from n k A0 hn1) (VR.from n k B0 hn1))
  obtain ⟨L8, hL8⟩ : ∃ l : List Int, diffL (overL (n ^ (k - 1)) (fromL n k A0) (fromL n k B0)) (fromL n k B0) = l := ⟨_, rfl⟩
  have vL8 := Lib.hid (by rw [← hL8]; exact VR.diff (by rw [EL4.out]; exact vL4.out) (by rw [EL2.out]; exact vL2.out) : VR n (k) L8)
  obtain ⟨lL8, hlL8⟩ : ∃ l, L8.length = l := ⟨_, rfl⟩
  have EL8 := Lib.hid hL8
  have ZL8 := Lib.hid hlL8
  clear hL8 hlL8
  have Q10 := Lib.hid (show ∀ z ∈ L8, z ∈ L1 from by rw [← EL8.out, ← EL1.out]; exact ov_diff (VR.from n k A0 hn1) (VR.from n k B0 hn1))
  obtain ⟨L9, hL9⟩ : ∃ l : List Int, overL (n ^ (k - 1)) (overL (n ^ (k - 1)) (fromL n k A0) (fromL n k B0)) (fromL n k C0) = l := ⟨_, rfl⟩
  have vL9 := Lib.hid (by rw [← hL9]; exact VR.over (by rw [EL4.out]; exact vL4.out) (by rw [EL3.out]; exact vL3.out) : VR n (k) L9)
  obtain ⟨lL9, hlL9⟩ : ∃ l, L9.length = l := ⟨_, rfl⟩
  have EL9 := Lib.hid hL9
  have ZL9 := Lib.hid hlL9
  clear hL9 hlL9
  obtain ⟨L10, hL10⟩ : ∃ l : List Int, overL (n ^ (k - 1)) (fromL n k B0) (fromL n k C0) = l := ⟨_, rfl⟩
  have vL10 := Lib.hid (by rw [← hL10]; exact VR.over (by rw [EL2.out]; exact vL2.out) (by rw [EL3.out]; exact vL3.out) : VR n (k) L10)
  obtain ⟨lL10, hlL10⟩ : ∃ l, L10.length = l := ⟨_, rfl⟩
  have EL10 := Lib.hid hL10
  have ZL10 := Lib.hid hlL10
  clear hL10 hlL10
  obtain ⟨L11, hL11⟩ : ∃ l : List Int, overL (n ^ (k - 1)) (fromL n k A0) (overL (n ^ (k - 1)) (fromL n k B0) (fromL n k C0)) = l := ⟨_, rfl⟩
  have vL11 := Lib.hid (by rw [← hL11]; exact VR.over (by rw [EL1.out]; exact vL1.out) (by rw [EL10.out]; exact vL10.out) : VR n (k) L11)
  obtain ⟨lL11, hlL11⟩ : ∃ l, L11.length = l := ⟨_, rfl⟩
  have EL11 := Lib.hid hL11
  have ZL11 := Lib.hid hlL11
  clear hL11 hlL11
  have Q14 := Lib.hid (show L9 = L11 from by rw [← EL9.out, ← EL11.out]; exact ov_assoc (VR.from n k A0 hn1) (VR.from n k B0 hn1) (VR.from n k C0 hn1))
  have HPW := Lib.hid (show IntKind.i64.wrap ((k : Int) - 1) = ((k - 1 : Nat) : Int) from by rw [IntWalk.i64_in _ (by omega)]; omega)
  obtain ⟨i0, hi0, hz0, hz1, hz2⟩ := info_parts info3
  obtain ⟨p, hp⟩ : ∃ p, n ^ (k - 1) = p := ⟨_, rfl⟩
  have HP := Lib.hid hp
  clear hp
  have HOV := Lib.hid (show overL p L1 L2 = L4 by rw [← EL4.out, ← HP.out, ← EL1.out, ← EL2.out])
  obtain ⟨L12, hL12⟩ : ∃ l : List Int, uniq (divL p L4) = l := ⟨_, rfl⟩
  have vL12 := Lib.hid (by rw [← hL12]; exact VR.first vL4.out hk1 hn1 HP.out : VR n (1) L12)
  obtain ⟨lL12, hlL12⟩ : ∃ l, L12.length = l := ⟨_, rfl⟩
  have EL12 := Lib.hid hL12
  have ZL12 := Lib.hid hlL12
  clear hL12 hlL12
  obtain ⟨L13, hL13⟩ : ∃ l : List Int, uniq (divL p L1) = l := ⟨_, rfl⟩
  have vL13 := Lib.hid (by rw [← hL13]; exact VR.first vL1.out hk1 hn1 HP.out : VR n (1) L13)
  obtain ⟨lL13, hlL13⟩ : ∃ l, L13.length = l := ⟨_, rfl⟩
  have EL13 := Lib.hid hL13
  have ZL13 := Lib.hid hlL13
  clear hL13 hlL13
  obtain ⟨L14, hL14⟩ : ∃ l : List Int, uniq (divL p L2) = l := ⟨_, rfl⟩
  have vL14 := Lib.hid (by rw [← hL14]; exact VR.first vL2.out hk1 hn1 HP.out : VR n (1) L14)
  obtain ⟨lL14, hlL14⟩ : ∃ l, L14.length = l := ⟨_, rfl⟩
  have EL14 := Lib.hid hL14
  have ZL14 := Lib.hid hlL14
  clear hL14 hlL14
  obtain ⟨L15, hL15⟩ : ∃ l : List Int, unionL (uniq (divL p L1)) (uniq (divL p L2)) = l := ⟨_, rfl⟩
  have vL15 := Lib.hid (by rw [← hL15]; exact VR.union (by rw [EL13.out]; exact vL13.out) (by rw [EL14.out]; exact vL14.out) : VR n (1) L15)
  obtain ⟨lL15, hlL15⟩ : ∃ l, L15.length = l := ⟨_, rfl⟩
  have EL15 := Lib.hid hL15
  have ZL15 := Lib.hid hlL15
  clear hL15 hlL15
  have Q16 := Lib.hid (show L12 = L15 from by rw [← EL12.out, ← EL15.out]; exact (by have h := ov_first (n := n) (k := k) (r := p) vL1.out vL2.out; rw [HOV.out] at h; exact h))
  obtain ⟨lA0, hlA0⟩ : ∃ l, A0.length = l := ⟨_, rfl⟩
  obtain ⟨lB0, hlB0⟩ : ∃ l, B0.length = l := ⟨_, rfl⟩
  obtain ⟨lC0, hlC0⟩ : ∃ l, C0.length = l := ⟨_, rfl⟩
  have ZA0 := Lib.hid hlA0; have ZB0 := Lib.hid hlB0; have ZC0 := Lib.hid hlC0
  rw [hlA0, hlB0, hlC0]
  clear hlA0 hlB0 hlC0
  have hg := World.grownBy_alloc W0 (.cells #[.int .u8 (N : Int), .int .u8 (Ar : Int), .slice aa lA0 ca, .slice ab lB0 cb, .slice ac lC0 cc] 24) none
  have hb0 : (W0.alloc (.cells #[.int .u8 (N : Int), .int .u8 (Ar : Int), .slice aa lA0 ca, .slice ab lB0 cb, .slice ac lC0 cc] 24)).cell? ⟨W0.heap.size, 0, none⟩ = some (.int .u8 (N : Int)) := by go_simp
  have hb1 : (W0.alloc (.cells #[.int .u8 (N : Int), .int .u8 (Ar : Int), .slice aa lA0 ca, .slice ab lB0 cb, .slice ac lC0 cc] 24)).cell? ⟨W0.heap.size, 1, none⟩ = some (.int .u8 (Ar : Int)) := by go_simp
  have hb2 : (W0.alloc (.cells #[.int .u8 (N : Int), .int .u8 (Ar : Int), .slice aa lA0 ca, .slice ab lB0 cb, .slice ac lC0 cc] 24)).cell? ⟨W0.heap.size, 2, none⟩ = some (.slice aa lA0 ca) := by go_simp
  have hb3 : (W0.alloc (.cells #[.int .u8 (N : Int), .int .u8 (Ar : Int), .slice aa lA0 ca, .slice ab lB0 cb, .slice ac lC0 cc] 24)).cell? ⟨W0.heap.size, 3, none⟩ = some (.slice ab lB0 cb) := by go_simp
  have hb4 : (W0.alloc (.cells #[.int .u8 (N : Int), .int .u8 (Ar : Int), .slice aa lA0 ca, .slice ab lB0 cb, .slice ac lC0 cc] 24)).cell? ⟨W0.heap.size, 4, none⟩ = some (.slice ac lC0 cc) := by go_simp
  obtain ⟨V0, hV0⟩ : ∃ V, W0.alloc (.cells #[.int .u8 (N : Int), .int .u8 (Ar : Int), .slice aa lA0 ca, .slice ab lB0 cb, .slice ac lC0 cc] 24) = V := ⟨_, rfl⟩
  rw [hV0] at hg hb0 hb1 hb2 hb3 hb4
  have HG := Lib.hid hg
  have HRB := Lib.hid (And.intro hb0 (And.intro hb1 (And.intro hb2 (And.intro hb3 hb4))))
  have HR := Lib.hid (h.grown hg)
  clear hg hb0 hb1 hb2 hb3 hb4 h
  go_enter Try.func9, Try.ntmps9
  have qr0 := HRB.out.1
  have qr1 := HRB.out.2.1
  have qr2 := HRB.out.2.2.1
  have qr3 := HRB.out.2.2.2.1
  have qr4 := HRB.out.2.2.2.2
  go_upto_region 1 with fail
  clear qr0 qr1 qr2 qr3 qr4
  clear hV0
  have qr0 := HRB.out.1
  have qr1 := HRB.out.2.1
  have qr2 := HRB.out.2.2.1
  have qr3 := HRB.out.2.2.2.1
  have qr4 := HRB.out.2.2.2.2
  go_wp2_with fail
  clear qr0 qr1 qr2 qr3 qr4
  refine (head_calls _).mono ?_
  rintro e V1 ⟨rfl, g⟩
  replace HRB := Lib.hid (And.intro (World.grownBy.cell g HRB.out.1 (by simp)) (And.intro (World.grownBy.cell g HRB.out.2.1 (by simp)) (And.intro (World.grownBy.cell g HRB.out.2.2.1 (by simp)) (And.intro (World.grownBy.cell g HRB.out.2.2.2.1 (by simp)) (World.grownBy.cell g HRB.out.2.2.2.2 (by simp))))))
  replace HR := Lib.hid (HR.out.grown g)
  replace HG := Lib.hid (World.grownBy.trans HG.out g)
  clear g
  have qr0 := HRB.out.1
  have qr1 := HRB.out.2.1
  have qr2 := HRB.out.2.2.1
  have qr3 := HRB.out.2.2.2.1
  have qr4 := HRB.out.2.2.2.2
  go_wp2_with fail
  clear qr0 qr1 qr2 qr3 qr4
  refine (threeV hNN.out hKK.out EL1.out EL2.out EL3.out ZA0.out ZB0.out ZC0.out ZL1.out ZL2.out ZL3.out _ HR.out).mono ?_
  rintro e V2 ⟨xa, xb, xc, ya, yb, yc, rfl, ia, ib, ic, g⟩
  replace HRB := Lib.hid (And.intro (World.grownBy.cell g HRB.out.1 (by simp)) (And.intro (World.grownBy.cell g HRB.out.2.1 (by simp)) (And.intro (World.grownBy.cell g HRB.out.2.2.1 (by simp)) (And.intro (World.grownBy.cell g HRB.out.2.2.2.1 (by simp)) (World.grownBy.cell g HRB.out.2.2.2.2 (by simp))))))
  replace HR := Lib.hid (HR.out.grown g)
  replace HG := Lib.hid (World.grownBy.trans HG.out g)
  clear g
  have Ha := Lib.hid ia; have Hb := Lib.hid ib; have Hc := Lib.hid ic
  clear ia ib ic HRB HR
  go_upto_region 3 with fail
  have hs6 := (Six.new V2 (.int .i64 ((k : Nat) : Int)) (.slice xa lL1 ya) (.int .i64 ((k : Nat) : Int)) (.slice xb lL2 yb) (.int .i64 ((k : Nat) : Int)) (.slice xc lL3 yc) 29).1
  have g := World.grownBy_alloc V2 (.cells #[.int .i64 ((k : Nat) : Int), .slice xa lL1 ya, .int .i64 ((k : Nat) : Int), .slice xb lL2 yb, .int .i64 ((k : Nat) : Int), .slice xc lL3 yc] 29) none
  obtain ⟨V3, hV3⟩ : ∃ z, World.alloc V2 (.cells #[.int .i64 ((k : Nat) : Int), .slice xa lL1 ya, .int .i64 ((k : Nat) : Int), .slice xb lL2 yb, .int .i64 ((k : Nat) : Int), .slice xc lL3 yc] 29) = z := ⟨_, rfl⟩
  rw [hV3] at g hs6 ⊢
  clear hV3
  obtain ⟨bT, hb⟩ : ∃ b, V2.heap.size = b := ⟨_, rfl⟩
  rw [hb] at hs6 ⊢
  clear hb
  replace Ha := Lib.hid (Ha.out.grown g)
  replace Hb := Lib.hid (Hb.out.grown g)
  replace Hc := Lib.hid (Hc.out.grown g)
  replace HG := Lib.hid (World.grownBy.trans HG.out g)
  clear g
  have HT := Lib.hid hs6
  clear hs6
  have t0 := HT.out.1
  have t1 := HT.out.2.1
  have t2 := HT.out.2.2.1
  have t3 := HT.out.2.2.2.1
  have t4 := HT.out.2.2.2.2.1
  have t5 := HT.out.2.2.2.2.2
  go_upto_region 4 with fail
  clear t0 t1 t2 t3 t4 t5
  have hbx := one_cells V3 (.int .i64 (k : Nat)) (.slice xa lL1 ya) 27
  have g := World.grownBy_alloc V3 (.cells #[.int .i64 (k : Nat), .slice xa lL1 ya] 27) none
  obtain ⟨V4, hV4⟩ : ∃ z, World.alloc V3 (.cells #[.int .i64 (k : Nat), .slice xa lL1 ya] 27) = z := ⟨_, rfl⟩
  rw [hV4] at g hbx ⊢
  clear hV4
  obtain ⟨bB6, hb⟩ : ∃ b, V3.heap.size = b := ⟨_, rfl⟩
  rw [hb] at hbx ⊢
  clear hb
  replace Ha := Lib.hid (Ha.out.grown g)
  replace Hb := Lib.hid (Hb.out.grown g)
  replace Hc := Lib.hid (Hc.out.grown g)
  replace HT := Lib.hid (And.intro (World.grownBy.cell g HT.out.1 (by simp)) (And.intro (World.grownBy.cell g HT.out.2.1 (by simp)) (And.intro (World.grownBy.cell g HT.out.2.2.1 (by simp)) (And.intro (World.grownBy.cell g HT.out.2.2.2.1 (by simp)) (And.intro (World.grownBy.cell g HT.out.2.2.2.2.1 (by simp)) (World.grownBy.cell g HT.out.2.2.2.2.2 (by simp)))))))
  replace HG := Lib.hid (World.grownBy.trans HG.out g)
  clear g
  have HB6 := Lib.hid (And.intro hbx.2.1 hbx.2.2.1)
  clear hbx
  have qB60 := HB6.out.1
  have qB61 := HB6.out.2
  have t0 := HT.out.1
  have t1 := HT.out.2.1
  have t2 := HT.out.2.2.1
  have t3 := HT.out.2.2.2.1
  have t4 := HT.out.2.2.2.2.1
  have t5 := HT.out.2.2.2.2.2
  go_upto_region 5 with fail
  clear qB60 qB61 t0 t1 t2 t3 t4 t5
  have hbx := one_cells V4 (.int .i64 (k : Nat)) (.slice xb lL2 yb) 27
  have g := World.grownBy_alloc V4 (.cells #[.int .i64 (k : Nat), .slice xb lL2 yb] 27) none
  obtain ⟨V5, hV5⟩ : ∃ z, World.alloc V4 (.cells #[.int .i64 (k : Nat), .slice xb lL2 yb] 27) = z := ⟨_, rfl⟩
  rw [hV5] at g hbx ⊢
  clear hV5
  obtain ⟨bB7, hb⟩ : ∃ b, V4.heap.size = b := ⟨_, rfl⟩
  rw [hb] at hbx ⊢
  clear hb
  replace Ha := Lib.hid (Ha.out.grown g)
  replace Hb := Lib.hid (Hb.out.grown g)
  replace Hc := Lib.hid (Hc.out.grown g)
  replace HB6 := Lib.hid (And.intro (World.grownBy.cell g HB6.out.1 (by simp)) (World.grownBy.cell g HB6.out.2 (by simp)))
  replace HT := Lib.hid (And.intro (World.grownBy.cell g HT.out.1 (by simp)) (And.intro (World.grownBy.cell g HT.out.2.1 (by simp)) (And.intro (World.grownBy.cell g HT.out.2.2.1 (by simp)) (And.intro (World.grownBy.cell g HT.out.2.2.2.1 (by simp)) (And.intro (World.grownBy.cell g HT.out.2.2.2.2.1 (by simp)) (World.grownBy.cell g HT.out.2.2.2.2.2 (by simp)))))))
  replace HG := Lib.hid (World.grownBy.trans HG.out g)
  clear g
  have HB7 := Lib.hid (And.intro hbx.2.1 hbx.2.2.1)
  clear hbx
  have qB60 := HB6.out.1
  have qB61 := HB6.out.2
  have qB70 := HB7.out.1
  have qB71 := HB7.out.2
  have t0 := HT.out.1
  have t1 := HT.out.2.1
  have t2 := HT.out.2.2.1
  have t3 := HT.out.2.2.2.1
  have t4 := HT.out.2.2.2.2.1
  have t5 := HT.out.2.2.2.2.2
  go_upto_region 6 with fail
  clear qB60 qB61 qB70 qB71 t0 t1 t2 t3 t4 t5
  have hbx := one_cells V5 (.int .i64 (k : Nat)) (.slice xc lL3 yc) 27
  have g := World.grownBy_alloc V5 (.cells #[.int .i64 (k : Nat), .slice xc lL3 yc] 27) none
  obtain ⟨V6, hV6⟩ : ∃ z, World.alloc V5 (.cells #[.int .i64 (k : Nat), .slice xc lL3 yc] 27) = z := ⟨_, rfl⟩
  rw [hV6] at g hbx ⊢
  clear hV6
  obtain ⟨bB8, hb⟩ : ∃ b, V5.heap.size = b := ⟨_, rfl⟩
  rw [hb] at hbx ⊢
  clear hb
  replace Ha := Lib.hid (Ha.out.grown g)
  replace Hb := Lib.hid (Hb.out.grown g)
  replace Hc := Lib.hid (Hc.out.grown g)
  replace HB6 := Lib.hid (And.intro (World.grownBy.cell g HB6.out.1 (by simp)) (World.grownBy.cell g HB6.out.2 (by simp)))
  replace HB7 := Lib.hid (And.intro (World.grownBy.cell g HB7.out.1 (by simp)) (World.grownBy.cell g HB7.out.2 (by simp)))
  replace HT := Lib.hid (And.intro (World.grownBy.cell g HT.out.1 (by simp)) (And.intro (World.grownBy.cell g HT.out.2.1 (by simp)) (And.intro (World.grownBy.cell g HT.out.2.2.1 (by simp)) (And.intro (World.grownBy.cell g HT.out.2.2.2.1 (by simp)) (And.intro (World.grownBy.cell g HT.out.2.2.2.2.1 (by simp)) (World.grownBy.cell g HT.out.2.2.2.2.2 (by simp)))))))
  replace HG := Lib.hid (World.grownBy.trans HG.out g)
  clear g
  have HB8 := Lib.hid (And.intro hbx.2.1 hbx.2.2.1)
  clear hbx
  clear HT
  have qB60 := HB6.out.1
  have qB61 := HB6.out.2
  have qB70 := HB7.out.1
  have qB71 := HB7.out.2
  have qB80 := HB8.out.1
  have qB81 := HB8.out.2
  go_wp2_with fail
  clear qB60 qB61 qB70 qB71 qB80 qB81
  refine (overV (k := k) (j := k) vL1.out vL2.out hn1 hn5 hk3 hk1 hk3 (by rw [← EL1.out, ← EL2.out]; exact EL4.out) ZL1.out ZL2.out ZL4.out _ _ _ _ _ Ha.out Hb.out).mono ?_
  rintro e V7 ⟨xr1, yr1, rfl, hr, g⟩
  replace Ha := Lib.hid (Ha.out.grown g)
  replace Hb := Lib.hid (Hb.out.grown g)
  replace Hc := Lib.hid (Hc.out.grown g)
  replace HB6 := Lib.hid (And.intro (World.grownBy.cell g HB6.out.1 (by simp)) (World.grownBy.cell g HB6.out.2 (by simp)))
  replace HB7 := Lib.hid (And.intro (World.grownBy.cell g HB7.out.1 (by simp)) (World.grownBy.cell g HB7.out.2 (by simp)))
  replace HB8 := Lib.hid (And.intro (World.grownBy.cell g HB8.out.1 (by simp)) (World.grownBy.cell g HB8.out.2 (by simp)))
  replace HG := Lib.hid (World.grownBy.trans HG.out g)
  clear g
  have Hr1 := Lib.hid hr
  clear hr
  have qB60 := HB6.out.1
  have qB61 := HB6.out.2
  have qB70 := HB7.out.1
  have qB71 := HB7.out.2
  have qB80 := HB8.out.1
  have qB81 := HB8.out.2
  go_upto_region 7 with fail
  clear qB60 qB61 qB70 qB71 qB80 qB81
  have hbx := one_cells V7 (.int .i64 (k : Nat)) (.slice xr1 lL4 yr1) 27
  have g := World.grownBy_alloc V7 (.cells #[.int .i64 (k : Nat), .slice xr1 lL4 yr1] 27) none
  obtain ⟨V8, hV8⟩ : ∃ z, World.alloc V7 (.cells #[.int .i64 (k : Nat), .slice xr1 lL4 yr1] 27) = z := ⟨_, rfl⟩
  rw [hV8] at g hbx ⊢
  clear hV8
  obtain ⟨bB9, hb⟩ : ∃ b, V7.heap.size = b := ⟨_, rfl⟩
  rw [hb] at hbx ⊢
  clear hb
  replace Ha := Lib.hid (Ha.out.grown g)
  replace Hb := Lib.hid (Hb.out.grown g)
  replace Hc := Lib.hid (Hc.out.grown g)
  replace Hr1 := Lib.hid (Hr1.out.grown g)
  replace HB6 := Lib.hid (And.intro (World.grownBy.cell g HB6.out.1 (by simp)) (World.grownBy.cell g HB6.out.2 (by simp)))
  replace HB7 := Lib.hid (And.intro (World.grownBy.cell g HB7.out.1 (by simp)) (World.grownBy.cell g HB7.out.2 (by simp)))
  replace HB8 := Lib.hid (And.intro (World.grownBy.cell g HB8.out.1 (by simp)) (World.grownBy.cell g HB8.out.2 (by simp)))
  replace HG := Lib.hid (World.grownBy.trans HG.out g)
  clear g
  have HB9 := Lib.hid (And.intro hbx.2.1 hbx.2.2.1)
  clear hbx
  have qB60 := HB6.out.1
  have qB61 := HB6.out.2
  have qB70 := HB7.out.1
  have qB71 := HB7.out.2
  have qB80 := HB8.out.1
  have qB81 := HB8.out.2
  have qB90 := HB9.out.1
  have qB91 := HB9.out.2
  go_upto_region 7 with fail
  clear qB60 qB61 qB70 qB71 qB80 qB81 qB90 qB91
  have qB60 := HB6.out.1
  have qB61 := HB6.out.2
  have qB70 := HB7.out.1
  have qB71 := HB7.out.2
  have qB80 := HB8.out.1
  have qB81 := HB8.out.2
  have qB90 := HB9.out.1
  have qB91 := HB9.out.2
  go_upto_region 8 with fail
  clear qB60 qB61 qB70 qB71 qB80 qB81 qB90 qB91
  have hbx := one_cells V8 (.int .i64 (k : Nat)) (.slice none 0 0) 27
  have g := World.grownBy_alloc V8 (.cells #[.int .i64 (k : Nat), .slice none 0 0] 27) none
  obtain ⟨V9, hV9⟩ : ∃ z, World.alloc V8 (.cells #[.int .i64 (k : Nat), .slice none 0 0] 27) = z := ⟨_, rfl⟩
  rw [hV9] at g hbx ⊢
  clear hV9
  obtain ⟨bB10, hb⟩ : ∃ b, V8.heap.size = b := ⟨_, rfl⟩
  rw [hb] at hbx ⊢
  clear hb
  replace Ha := Lib.hid (Ha.out.grown g)
  replace Hb := Lib.hid (Hb.out.grown g)
  replace Hc := Lib.hid (Hc.out.grown g)
  replace Hr1 := Lib.hid (Hr1.out.grown g)
  replace HB6 := Lib.hid (And.intro (World.grownBy.cell g HB6.out.1 (by simp)) (World.grownBy.cell g HB6.out.2 (by simp)))
  replace HB7 := Lib.hid (And.intro (World.grownBy.cell g HB7.out.1 (by simp)) (World.grownBy.cell g HB7.out.2 (by simp)))
  replace HB8 := Lib.hid (And.intro (World.grownBy.cell g HB8.out.1 (by simp)) (World.grownBy.cell g HB8.out.2 (by simp)))
  replace HB9 := Lib.hid (And.intro (World.grownBy.cell g HB9.out.1 (by simp)) (World.grownBy.cell g HB9.out.2 (by simp)))
  replace HG := Lib.hid (World.grownBy.trans HG.out g)
  clear g
  have HB10 := Lib.hid (And.intro hbx.2.1 hbx.2.2.1)
  clear hbx
  have Hem := Lib.hid (intsW_nil V9 none 0)
  have HS := Lib.hid (fun (Wh : World) (hWh : V9.grownBy Wh none) => (⟨hWh, hWh.cell HB6.out.1 (by simp), hWh.cell HB6.out.2 (by simp), hWh.cell HB7.out.1 (by simp), hWh.cell HB7.out.2 (by simp), hWh.cell HB8.out.1 (by simp), hWh.cell HB8.out.2 (by simp), hWh.cell HB9.out.1 (by simp), hWh.cell HB9.out.2 (by simp), hWh.cell HB10.out.1 (by simp), hWh.cell HB10.out.2 (by simp)⟩ : (fun Wh : World => V9.grownBy Wh none ∧ Wh.cell? ⟨bB6, 0, none⟩ = some (.int .i64 (k : Nat)) ∧ Wh.cell? ⟨bB6, 1, none⟩ = some (.slice xa lL1 ya) ∧ Wh.cell? ⟨bB7, 0, none⟩ = some (.int .i64 (k : Nat)) ∧ Wh.cell? ⟨bB7, 1, none⟩ = some (.slice xb lL2 yb) ∧ Wh.cell? ⟨bB8, 0, none⟩ = some (.int .i64 (k : Nat)) ∧ Wh.cell? ⟨bB8, 1, none⟩ = some (.slice xc lL3 yc) ∧ Wh.cell? ⟨bB9, 0, none⟩ = some (.int .i64 (k : Nat)) ∧ Wh.cell? ⟨bB9, 1, none⟩ = some (.slice xr1 lL4 yr1) ∧ Wh.cell? ⟨bB10, 0, none⟩ = some (.int .i64 (k : Nat)) ∧ Wh.cell? ⟨bB10, 1, none⟩ = some (.slice none 0 0)) Wh))
  have hdr : V9.grownBy V9.drew none := ⟨rfl, rfl, rfl, Nat.le_refl _, fun _ _ _ => rfl⟩
  refine wp_region_held_drew (S := (fun Wh : World => V9.grownBy Wh none ∧ Wh.cell? ⟨bB6, 0, none⟩ = some (.int .i64 (k : Nat)) ∧ Wh.cell? ⟨bB6, 1, none⟩ = some (.slice xa lL1 ya) ∧ Wh.cell? ⟨bB7, 0, none⟩ = some (.int .i64 (k : Nat)) ∧ Wh.cell? ⟨bB7, 1, none⟩ = some (.slice xb lL2 yb) ∧ Wh.cell? ⟨bB8, 0, none⟩ = some (.int .i64 (k : Nat)) ∧ Wh.cell? ⟨bB8, 1, none⟩ = some (.slice xc lL3 yc) ∧ Wh.cell? ⟨bB9, 0, none⟩ = some (.int .i64 (k : Nat)) ∧ Wh.cell? ⟨bB9, 1, none⟩ = some (.slice xr1 lL4 yr1) ∧ Wh.cell? ⟨bB10, 0, none⟩ = some (.int .i64 (k : Nat)) ∧ Wh.cell? ⟨bB10, 1, none⟩ = some (.slice none 0 0))) (by kernel_rfl) (HS.out _ hdr) (fun hHeld => ?_)
  refine wpAnyH_take (i := 0) (oi := { dst := some 36, op := Op.move (Operand.tmp 4), type := 3, pos := "law.go:201", after := #[], guard := none }) (v := ?_) rfl (by kernel_rfl) (by kernel_rfl) (by kernel_rfl) (fun _ _ _ h => h) (Or.inl ⟨by rfl, ?_⟩) (by assumption) ?_
  rotate_left 1
  · (intro W hSW; (try dsimp only at hSW); first | (go_simp; done) | (go_simp; with_reducible rfl))
  try simp only [Act.put, List.setIfInBounds_toArray, List.set_cons_zero, List.set_cons_succ]
  refine wpAnyH_take (i := 1) (oi := { dst := some 37, op := Op.load 27 (Operand.tmp 6), type := 27, pos := "law.go:201", after := #[], guard := none }) (v := ?_) rfl (by kernel_rfl) (by kernel_rfl) (by kernel_rfl) (fun _ _ _ h => h) (Or.inl ⟨by rfl, ?_⟩) (by assumption) ?_
  rotate_left 1
  · (intro W hSW; (try dsimp only at hSW); first | (go_simp; done) | (go_simp; with_reducible rfl))
  try simp only [Act.put, List.setIfInBounds_toArray, List.set_cons_zero, List.set_cons_succ]
  refine wpAnyH_take (i := 2) (oi := { dst := some 38, op := Op.load 27 (Operand.tmp 10), type := 27, pos := "law.go:201", after := #[], guard := none }) (v := ?_) rfl (by kernel_rfl) (by kernel_rfl) (by kernel_rfl) (fun _ _ _ h => h) (Or.inl ⟨by rfl, ?_⟩) (by assumption) ?_
  rotate_left 1
  · (intro W hSW; (try dsimp only at hSW); first | (go_simp; done) | (go_simp; with_reducible rfl))
  try simp only [Act.put, List.setIfInBounds_toArray, List.set_cons_zero, List.set_cons_succ]
  refine wpAnyH_take (i := 4) (oi := { dst := some 40, op := Op.load 27 (Operand.tmp 6), type := 27, pos := "law.go:201", after := #[], guard := none }) (v := ?_) rfl (by kernel_rfl) (by kernel_rfl) (by kernel_rfl) (fun _ _ _ h => h) (Or.inl ⟨by rfl, ?_⟩) (by assumption) ?_
  rotate_left 1
  · (intro W hSW; (try dsimp only at hSW); first | (go_simp; done) | (go_simp; with_reducible rfl))
  try simp only [Act.put, List.setIfInBounds_toArray, List.set_cons_zero, List.set_cons_succ]
  refine wpAnyH_ready (rs := [3]) (by kernel_rfl) (by simp) ?_
  refine (AllReadyH.cons (o := { dst := some 39, op := Op.call { callee := Callee.value (Operand.func 33), args := #[Operand.tmp 36, Operand.tmp 37, Operand.tmp 38], argTypes := #[3, 27, 27] }, type := 27, pos := "law.go:201", after := #[{ on := 0, ground := Ground.data }, { on := 1, ground := Ground.data }, { on := 2, ground := Ground.data }], guard := none }) rfl (fun K hK => ?_) AllReadyH.nil)
  rw [if_pos (by rfl)]
  go_simp
  go_at_call 33
  refine (overV (k := k) (j := k) vL1.out vLE.out hn1 hn5 hk3 hk1 hk3 (by rw [← EL1.out]; exact EL5.out) ZL1.out rfl ZL5.out _ _ _ _ _ (Ha.out.grown hdr) (Hem.out.grown hdr)).mono ?_
  rintro e wc3 ⟨xr2, yr2, rfl, hrr2, gc3⟩
  have hgr3 := World.grownBy.trans hdr gc3
  go_wp2_with fail
  refine hK.out _ _ (HS.out _ hgr3) (fun hHeld => ?_)
  clear hK K
  try simp only [Act.put, List.setIfInBounds_toArray, List.set_cons_zero, List.set_cons_succ]
  refine wpAnyH_ready (rs := [5]) (by kernel_rfl) (by simp) ?_
  refine (AllReadyH.cons (o := { dst := some 41, op := Op.call { callee := Callee.value (Operand.func 19), args := #[Operand.tmp 39, Operand.tmp 40], argTypes := #[27, 27] }, type := 4, pos := "law.go:201", after := #[{ on := 3, ground := Ground.data }, { on := 4, ground := Ground.data }, { on := 3, ground := Ground.chain }], guard := none }) rfl (fun K hK => ?_) AllReadyH.nil)
  rw [if_pos (by rfl)]
  go_simp
  go_at_call 19
  refine (equalV (k := k) (Q := true) (k : Nat) (k : Nat) vL5.out hn5 hk3 (eqQ _ Q3.out) ZL5.out ZL1.out _ _ _ _ _ hrr2 (Ha.out.grown hgr3)).mono ?_
  rintro e wc5 ⟨rfl, gc5⟩
  have hgr5 := World.grownBy.trans hgr3 gc5
  go_wp2_with fail
  refine hK.out _ _ (HS.out _ hgr5) (fun hHeld => ?_)
  clear hK K
  try simp only [Act.put, List.setIfInBounds_toArray, List.set_cons_zero, List.set_cons_succ]
  refine wpAnyH_take (i := 6) (oi := { dst := some 42, op := Op.unOp UnOp.not 4 (Operand.tmp 41), type := 4, pos := "law.go:201", after := #[{ on := 5, ground := Ground.data }], guard := none }) (v := ?_) rfl (by kernel_rfl) (by kernel_rfl) (by kernel_rfl) (fun _ _ _ h => h) (Or.inl ⟨by rfl, ?_⟩) (by assumption) ?_
  rotate_left 1
  · (intro W hSW; (try dsimp only at hSW); first | (go_simp; done) | (go_simp; with_reducible rfl))
  try simp only [Act.put, List.setIfInBounds_toArray, List.set_cons_zero, List.set_cons_succ]
  refine wpAnyH_take (i := 7) (oi := { dst := some 43, op := Op.move (Operand.tmp 42), type := 4, pos := "law.go:201", after := #[{ on := 6, ground := Ground.data }, { on := 5, ground := Ground.chain }], guard := none }) (v := ?_) rfl (by kernel_rfl) (by kernel_rfl) (by kernel_rfl) (fun _ _ _ h => h) (Or.inl ⟨by rfl, ?_⟩) (by assumption) ?_
  rotate_left 1
  · (intro W hSW; (try dsimp only at hSW); first | (go_simp; done) | (go_simp; with_reducible rfl))
  try simp only [Act.put, List.setIfInBounds_toArray, List.set_cons_zero, List.set_cons_succ]
  refine wpAnyH_take (i := 8) (oi := { dst := some 44, op := Op.move (Operand.tmp 4), type := 3, pos := "law.go:201", after := #[{ on := 7, ground := Ground.guard }], guard := some (7, false) }) (v := ?_) rfl (by kernel_rfl) (by kernel_rfl) (by kernel_rfl) (fun _ _ _ h => h) (Or.inl ⟨by rfl, ?_⟩) (by assumption) ?_
  rotate_left 1
  · (intro W hSW; (try dsimp only at hSW); first | (go_simp; done) | (go_simp; with_reducible rfl))
  try simp only [Act.put, List.setIfInBounds_toArray, List.set_cons_zero, List.set_cons_succ]
  refine wpAnyH_take (i := 9) (oi := { dst := some 45, op := Op.load 27 (Operand.tmp 10), type := 27, pos := "law.go:201", after := #[{ on := 7, ground := Ground.guard }], guard := some (7, false) }) (v := ?_) rfl (by kernel_rfl) (by kernel_rfl) (by kernel_rfl) (fun _ _ _ h => h) (Or.inl ⟨by rfl, ?_⟩) (by assumption) ?_
  rotate_left 1
  · (intro W hSW; (try dsimp only at hSW); first | (go_simp; done) | (go_simp; with_reducible rfl))
  try simp only [Act.put, List.setIfInBounds_toArray, List.set_cons_zero, List.set_cons_succ]
  refine wpAnyH_take (i := 10) (oi := { dst := some 46, op := Op.load 27 (Operand.tmp 7), type := 27, pos := "law.go:201", after := #[{ on := 7, ground := Ground.guard }], guard := some (7, false) }) (v := ?_) rfl (by kernel_rfl) (by kernel_rfl) (by kernel_rfl) (fun _ _ _ h => h) (Or.inl ⟨by rfl, ?_⟩) (by assumption) ?_
  rotate_left 1
  · (intro W hSW; (try dsimp only at hSW); first | (go_simp; done) | (go_simp; with_reducible rfl))
  try simp only [Act.put, List.setIfInBounds_toArray, List.set_cons_zero, List.set_cons_succ]
  refine wpAnyH_take (i := 12) (oi := { dst := some 48, op := Op.load 27 (Operand.tmp 7), type := 27, pos := "law.go:201", after := #[{ on := 7, ground := Ground.guard }], guard := some (7, false) }) (v := ?_) rfl (by kernel_rfl) (by kernel_rfl) (by kernel_rfl) (fun _ _ _ h => h) (Or.inl ⟨by rfl, ?_⟩) (by assumption) ?_
  rotate_left 1
  · (intro W hSW; (try dsimp only at hSW); first | (go_simp; done) | (go_simp; with_reducible rfl))
  try simp only [Act.put, List.setIfInBounds_toArray, List.set_cons_zero, List.set_cons_succ]
  refine wpAnyH_ready (rs := [11]) (by kernel_rfl) (by simp) ?_
  refine (AllReadyH.cons (o := { dst := some 47, op := Op.call { callee := Callee.value (Operand.func 33), args := #[Operand.tmp 44, Operand.tmp 45, Operand.tmp 46], argTypes := #[3, 27, 27] }, type := 27, pos := "law.go:201", after := #[{ on := 8, ground := Ground.data }, { on := 9, ground := Ground.data }, { on := 10, ground := Ground.data }, { on := 7, ground := Ground.chain }, { on := 7, ground := Ground.guard }], guard := some (7, false) }) rfl (fun K hK => ?_) AllReadyH.nil)
  rw [if_pos (by rfl)]
  go_simp
  go_at_call 33
  refine (overV (k := k) (j := k) vLE.out vL2.out hn1 hn5 hk3 hk1 hk3 (by rw [← EL2.out]; exact EL6.out) rfl ZL2.out ZL6.out _ _ _ _ _ (Hem.out.grown hgr5) (Hb.out.grown hgr5)).mono ?_
  rintro e wc11 ⟨xr4, yr4, rfl, hrr4, gc11⟩
  have hgr11 := World.grownBy.trans hgr5 gc11
  go_wp2_with fail
  refine hK.out _ _ (HS.out _ hgr11) (fun hHeld => ?_)
  clear hK K
  try simp only [Act.put, List.setIfInBounds_toArray, List.set_cons_zero, List.set_cons_succ]
  refine wpAnyH_ready (rs := [13]) (by kernel_rfl) (by simp) ?_
  refine (AllReadyH.cons (o := { dst := some 49, op := Op.call { callee := Callee.value (Operand.func 19), args := #[Operand.tmp 47, Operand.tmp 48], argTypes := #[27, 27] }, type := 4, pos := "law.go:201", after := #[{ on := 11, ground := Ground.data }, { on := 12, ground := Ground.data }, { on := 11, ground := Ground.chain }, { on := 7, ground := Ground.guard }], guard := some (7, false) }) rfl (fun K hK => ?_) AllReadyH.nil)
  rw [if_pos (by rfl)]
  go_simp
  go_at_call 19
  refine (equalV (k := k) (Q := true) (k : Nat) (k : Nat) vL6.out hn5 hk3 (eqQ _ Q5.out) ZL6.out ZL2.out _ _ _ _ _ hrr4 (Hb.out.grown hgr11)).mono ?_
  rintro e wc13 ⟨rfl, gc13⟩
  have hgr13 := World.grownBy.trans hgr11 gc13
  go_wp2_with fail
  refine hK.out _ _ (HS.out _ hgr13) (fun hHeld => ?_)
  clear hK K
  try simp only [Act.put, List.setIfInBounds_toArray, List.set_cons_zero, List.set_cons_succ]
  refine wpAnyH_take (i := 14) (oi := { dst := some 50, op := Op.unOp UnOp.not 4 (Operand.tmp 49), type := 4, pos := "law.go:201", after := #[{ on := 13, ground := Ground.data }, { on := 7, ground := Ground.guard }], guard := some (7, false) }) (v := ?_) rfl (by kernel_rfl) (by kernel_rfl) (by kernel_rfl) (fun _ _ _ h => h) (Or.inl ⟨by rfl, ?_⟩) (by assumption) ?_
  rotate_left 1
  · (intro W hSW; (try dsimp only at hSW); first | (go_simp; done) | (go_simp; with_reducible rfl))
  try simp only [Act.put, List.setIfInBounds_toArray, List.set_cons_zero, List.set_cons_succ]
  refine wpAnyH_take (i := 15) (oi := { dst := some 51, op := Op.pick (Operand.tmp 43) (Operand.const (Value.bool true)) (Operand.tmp 50), type := 4, pos := "law.go:201", after := #[{ on := 7, ground := Ground.data }, { on := 14, ground := Ground.data }], guard := none }) (v := ?_) rfl (by kernel_rfl) (by kernel_rfl) (by kernel_rfl) (fun _ _ _ h => h) (Or.inl ⟨by rfl, ?_⟩) (by assumption) ?_
  rotate_left 1
  · (intro W hSW; (try dsimp only at hSW); first | (go_simp; done) | (go_simp; with_reducible rfl))
  try simp only [Act.put, List.setIfInBounds_toArray, List.set_cons_zero, List.set_cons_succ]
  refine wpAnyH_take (i := 16) (oi := { dst := some 52, op := Op.move (Operand.tmp 51), type := 4, pos := "law.go:201", after := #[{ on := 15, ground := Ground.data }, { on := 13, ground := Ground.chain }], guard := none }) (v := ?_) rfl (by kernel_rfl) (by kernel_rfl) (by kernel_rfl) (fun _ _ _ h => h) (Or.inl ⟨by rfl, ?_⟩) (by assumption) ?_
  rotate_left 1
  · (intro W hSW; (try dsimp only at hSW); first | (go_simp; done) | (go_simp; with_reducible rfl))
  try simp only [Act.put, List.setIfInBounds_toArray, List.set_cons_zero, List.set_cons_succ]
  refine wpAnyH_take (i := 17) (oi := { dst := some 53, op := Op.move (Operand.tmp 4), type := 3, pos := "law.go:201", after := #[{ on := 16, ground := Ground.guard }], guard := some (16, false) }) (v := ?_) rfl (by kernel_rfl) (by kernel_rfl) (by kernel_rfl) (fun _ _ _ h => h) (Or.inl ⟨by rfl, ?_⟩) (by assumption) ?_
  rotate_left 1
  · (intro W hSW; (try dsimp only at hSW); first | (go_simp; done) | (go_simp; with_reducible rfl))
  try simp only [Act.put, List.setIfInBounds_toArray, List.set_cons_zero, List.set_cons_succ]
  refine wpAnyH_take (i := 18) (oi := { dst := some 54, op := Op.load 27 (Operand.tmp 6), type := 27, pos := "law.go:201", after := #[{ on := 16, ground := Ground.guard }], guard := some (16, false) }) (v := ?_) rfl (by kernel_rfl) (by kernel_rfl) (by kernel_rfl) (fun _ _ _ h => h) (Or.inl ⟨by rfl, ?_⟩) (by assumption) ?_
  rotate_left 1
  · (intro W hSW; (try dsimp only at hSW); first | (go_simp; done) | (go_simp; with_reducible rfl))
  try simp only [Act.put, List.setIfInBounds_toArray, List.set_cons_zero, List.set_cons_succ]
  refine wpAnyH_take (i := 19) (oi := { dst := some 55, op := Op.load 27 (Operand.tmp 6), type := 27, pos := "law.go:201", after := #[{ on := 16, ground := Ground.guard }], guard := some (16, false) }) (v := ?_) rfl (by kernel_rfl) (by kernel_rfl) (by kernel_rfl) (fun _ _ _ h => h) (Or.inl ⟨by rfl, ?_⟩) (by assumption) ?_
  rotate_left 1
  · (intro W hSW; (try dsimp only at hSW); first | (go_simp; done) | (go_simp; with_reducible rfl))
  try simp only [Act.put, List.setIfInBounds_toArray, List.set_cons_zero, List.set_cons_succ]
  refine wpAnyH_take (i := 21) (oi := { dst := some 57, op := Op.load 27 (Operand.tmp 6), type := 27, pos := "law.go:201", after := #[{ on := 16, ground := Ground.guard }], guard := some (16, false) }) (v := ?_) rfl (by kernel_rfl) (by kernel_rfl) (by kernel_rfl) (fun _ _ _ h => h) (Or.inl ⟨by rfl, ?_⟩) (by assumption) ?_
  rotate_left 1
  · (intro W hSW; (try dsimp only at hSW); first | (go_simp; done) | (go_simp; with_reducible rfl))
  try simp only [Act.put, List.setIfInBounds_toArray, List.set_cons_zero, List.set_cons_succ]
  refine wpAnyH_ready (rs := [20]) (by kernel_rfl) (by simp) ?_
  refine (AllReadyH.cons (o := { dst := some 56, op := Op.call { callee := Callee.value (Operand.func 33), args := #[Operand.tmp 53, Operand.tmp 54, Operand.tmp 55], argTypes := #[3, 27, 27] }, type := 27, pos := "law.go:201", after := #[{ on := 17, ground := Ground.data }, { on := 18, ground := Ground.data }, { on := 19, ground := Ground.data }, { on := 16, ground := Ground.chain }, { on := 16, ground := Ground.guard }], guard := some (16, false) }) rfl (fun K hK => ?_) AllReadyH.nil)
  rw [if_pos (by rfl)]
  go_simp
  go_at_call 33
  refine (overV (k := k) (j := k) vL1.out vL1.out hn1 hn5 hk3 hk1 hk3 (by rw [← EL1.out]; exact EL7.out) ZL1.out ZL1.out ZL7.out _ _ _ _ _ (Ha.out.grown hgr13) (Ha.out.grown hgr13)).mono ?_
  rintro e wc20 ⟨xr6, yr6, rfl, hrr6, gc20⟩
  have hgr20 := World.grownBy.trans hgr13 gc20
  go_wp2_with fail
  refine hK.out _ _ (HS.out _ hgr20) (fun hHeld => ?_)
  clear hK K
  try simp only [Act.put, List.setIfInBounds_toArray, List.set_cons_zero, List.set_cons_succ]
  refine wpAnyH_ready (rs := [22]) (by kernel_rfl) (by simp) ?_
  refine (AllReadyH.cons (o := { dst := some 58, op := Op.call { callee := Callee.value (Operand.func 19), args := #[Operand.tmp 56, Operand.tmp 57], argTypes := #[27, 27] }, type := 4, pos := "law.go:201", after := #[{ on := 20, ground := Ground.data }, { on := 21, ground := Ground.data }, { on := 20, ground := Ground.chain }, { on := 16, ground := Ground.guard }], guard := some (16, false) }) rfl (fun K hK => ?_) AllReadyH.nil)
  rw [if_pos (by rfl)]
  go_simp
  go_at_call 19
  refine (equalV (k := k) (Q := true) (k : Nat) (k : Nat) vL7.out hn5 hk3 (eqQ _ Q7.out) ZL7.out ZL1.out _ _ _ _ _ hrr6 (Ha.out.grown hgr20)).mono ?_
  rintro e wc22 ⟨rfl, gc22⟩
  have hgr22 := World.grownBy.trans hgr20 gc22
  go_wp2_with fail
  refine hK.out _ _ (HS.out _ hgr22) (fun hHeld => ?_)
  clear hK K
  try simp only [Act.put, List.setIfInBounds_toArray, List.set_cons_zero, List.set_cons_succ]
  refine wpAnyH_take (i := 23) (oi := { dst := some 59, op := Op.unOp UnOp.not 4 (Operand.tmp 58), type := 4, pos := "law.go:201", after := #[{ on := 22, ground := Ground.data }, { on := 16, ground := Ground.guard }], guard := some (16, false) }) (v := ?_) rfl (by kernel_rfl) (by kernel_rfl) (by kernel_rfl) (fun _ _ _ h => h) (Or.inl ⟨by rfl, ?_⟩) (by assumption) ?_
  rotate_left 1
  · (intro W hSW; (try dsimp only at hSW); first | (go_simp; done) | (go_simp; with_reducible rfl))
  try simp only [Act.put, List.setIfInBounds_toArray, List.set_cons_zero, List.set_cons_succ]
  refine wpAnyH_take (i := 24) (oi := { dst := some 60, op := Op.pick (Operand.tmp 52) (Operand.const (Value.bool true)) (Operand.tmp 59), type := 4, pos := "law.go:201", after := #[{ on := 16, ground := Ground.data }, { on := 23, ground := Ground.data }], guard := none }) (v := ?_) rfl (by kernel_rfl) (by kernel_rfl) (by kernel_rfl) (fun _ _ _ h => h) (Or.inl ⟨by rfl, ?_⟩) (by assumption) ?_
  rotate_left 1
  · (intro W hSW; (try dsimp only at hSW); first | (go_simp; done) | (go_simp; with_reducible rfl))
  try simp only [Act.put, List.setIfInBounds_toArray, List.set_cons_zero, List.set_cons_succ]
  refine wpAnyH_done (by kernel_rfl) ?_ _
  have hEND := hgr22
  clear hHeld
  obtain ⟨V10, rfl⟩ : ∃ z, z = wc22 := ⟨_, rfl⟩
  replace Ha := Lib.hid (Ha.out.grown hEND)
  replace Hb := Lib.hid (Hb.out.grown hEND)
  replace Hc := Lib.hid (Hc.out.grown hEND)
  replace Hr1 := Lib.hid (Hr1.out.grown hEND)
  replace Hem := Lib.hid (Hem.out.grown hEND)
  replace HB6 := Lib.hid (And.intro (World.grownBy.cell hEND HB6.out.1 (by simp)) (World.grownBy.cell hEND HB6.out.2 (by simp)))
  replace HB7 := Lib.hid (And.intro (World.grownBy.cell hEND HB7.out.1 (by simp)) (World.grownBy.cell hEND HB7.out.2 (by simp)))
  replace HB8 := Lib.hid (And.intro (World.grownBy.cell hEND HB8.out.1 (by simp)) (World.grownBy.cell hEND HB8.out.2 (by simp)))
  replace HB9 := Lib.hid (And.intro (World.grownBy.cell hEND HB9.out.1 (by simp)) (World.grownBy.cell hEND HB9.out.2 (by simp)))
  replace HB10 := Lib.hid (And.intro (World.grownBy.cell hEND HB10.out.1 (by simp)) (World.grownBy.cell hEND HB10.out.2 (by simp)))
  replace HG := Lib.hid (World.grownBy.trans HG.out hEND)
  clear hEND HS hrr2 hrr4 hrr6 hdr hgr3 hgr5 hgr11 hgr13 hgr20 hgr22 gc3 gc5 gc11 gc13 gc20 gc22
  have qB60 := HB6.out.1
  have qB61 := HB6.out.2
  have qB70 := HB7.out.1
  have qB71 := HB7.out.2
  have qB80 := HB8.out.1
  have qB81 := HB8.out.2
  have qB90 := HB9.out.1
  have qB91 := HB9.out.2
  have qB100 := HB10.out.1
  have qB101 := HB10.out.2
  go_upto_region 10 with fail
  clear qB60 qB61 qB70 qB71 qB80 qB81 qB90 qB91 qB100 qB101
  have HS := Lib.hid (fun (Wh : World) (hWh : V10.grownBy Wh none) => (⟨hWh, hWh.cell HB6.out.1 (by simp), hWh.cell HB6.out.2 (by simp), hWh.cell HB7.out.1 (by simp), hWh.cell HB7.out.2 (by simp), hWh.cell HB8.out.1 (by simp), hWh.cell HB8.out.2 (by simp), hWh.cell HB9.out.1 (by simp), hWh.cell HB9.out.2 (by simp), hWh.cell HB10.out.1 (by simp), hWh.cell HB10.out.2 (by simp)⟩ : (fun Wh : World => V10.grownBy Wh none ∧ Wh.cell? ⟨bB6, 0, none⟩ = some (.int .i64 (k : Nat)) ∧ Wh.cell? ⟨bB6, 1, none⟩ = some (.slice xa lL1 ya) ∧ Wh.cell? ⟨bB7, 0, none⟩ = some (.int .i64 (k : Nat)) ∧ Wh.cell? ⟨bB7, 1, none⟩ = some (.slice xb lL2 yb) ∧ Wh.cell? ⟨bB8, 0, none⟩ = some (.int .i64 (k : Nat)) ∧ Wh.cell? ⟨bB8, 1, none⟩ = some (.slice xc lL3 yc) ∧ Wh.cell? ⟨bB9, 0, none⟩ = some (.int .i64 (k : Nat)) ∧ Wh.cell? ⟨bB9, 1, none⟩ = some (.slice xr1 lL4 yr1) ∧ Wh.cell? ⟨bB10, 0, none⟩ = some (.int .i64 (k : Nat)) ∧ Wh.cell? ⟨bB10, 1, none⟩ = some (.slice none 0 0)) Wh))
  have hdr : V10.grownBy V10.drew none := ⟨rfl, rfl, rfl, Nat.le_refl _, fun _ _ _ => rfl⟩
  refine wp_region_held_drew (S := (fun Wh : World => V10.grownBy Wh none ∧ Wh.cell? ⟨bB6, 0, none⟩ = some (.int .i64 (k : Nat)) ∧ Wh.cell? ⟨bB6, 1, none⟩ = some (.slice xa lL1 ya) ∧ Wh.cell? ⟨bB7, 0, none⟩ = some (.int .i64 (k : Nat)) ∧ Wh.cell? ⟨bB7, 1, none⟩ = some (.slice xb lL2 yb) ∧ Wh.cell? ⟨bB8, 0, none⟩ = some (.int .i64 (k : Nat)) ∧ Wh.cell? ⟨bB8, 1, none⟩ = some (.slice xc lL3 yc) ∧ Wh.cell? ⟨bB9, 0, none⟩ = some (.int .i64 (k : Nat)) ∧ Wh.cell? ⟨bB9, 1, none⟩ = some (.slice xr1 lL4 yr1) ∧ Wh.cell? ⟨bB10, 0, none⟩ = some (.int .i64 (k : Nat)) ∧ Wh.cell? ⟨bB10, 1, none⟩ = some (.slice none 0 0))) (by kernel_rfl) (HS.out _ hdr) (fun hHeld => ?_)
  refine wpAnyH_take (i := 0) (oi := { dst := some 61, op := Op.load 27 (Operand.tmp 7), type := 27, pos := "law.go:204", after := #[], guard := none }) (v := ?_) rfl (by kernel_rfl) (by kernel_rfl) (by kernel_rfl) (fun _ _ _ h => h) (Or.inl ⟨by rfl, ?_⟩) (by assumption) ?_
  rotate_left 1
  · (intro W hSW; (try dsimp only at hSW); first | (go_simp; done) | (go_simp; with_reducible rfl))
  try simp only [Act.put, List.setIfInBounds_toArray, List.set_cons_zero, List.set_cons_succ]
  refine wpAnyH_take (i := 1) (oi := { dst := some 62, op := Op.load 27 (Operand.tmp 9), type := 27, pos := "law.go:204", after := #[], guard := none }) (v := ?_) rfl (by kernel_rfl) (by kernel_rfl) (by kernel_rfl) (fun _ _ _ h => h) (Or.inl ⟨by rfl, ?_⟩) (by assumption) ?_
  rotate_left 1
  · (intro W hSW; (try dsimp only at hSW); first | (go_simp; done) | (go_simp; with_reducible rfl))
  try simp only [Act.put, List.setIfInBounds_toArray, List.set_cons_zero, List.set_cons_succ]
  refine wpAnyH_ready (rs := [2]) (by kernel_rfl) (by simp) ?_
  refine (AllReadyH.cons (o := { dst := some 63, op := Op.call { callee := Callee.value (Operand.func 35), args := #[Operand.tmp 61, Operand.tmp 62], argTypes := #[27, 27] }, type := 4, pos := "law.go:204", after := #[{ on := 0, ground := Ground.data }, { on := 1, ground := Ground.data }], guard := none }) rfl (fun K hK => ?_) AllReadyH.nil)
  rw [if_pos (by rfl)]
  go_simp
  go_at_call 35
  refine (inV (k := k) (Q := true) (k : Nat) (k : Nat) vL2.out vL4.out hn5 hk3 (decide_eq_true Q8.out) ZL2.out ZL4.out _ _ _ _ _ (Hb.out.grown hdr) (Hr1.out.grown hdr)).mono ?_
  rintro e wc2 ⟨rfl, gc2⟩
  have hgr2 := World.grownBy.trans hdr gc2
  go_wp2_with fail
  refine hK.out _ _ (HS.out _ hgr2) (fun hHeld => ?_)
  clear hK K
  try simp only [Act.put, List.setIfInBounds_toArray, List.set_cons_zero, List.set_cons_succ]
  refine wpAnyH_take (i := 3) (oi := { dst := some 64, op := Op.unOp UnOp.not 4 (Operand.tmp 63), type := 4, pos := "law.go:204", after := #[{ on := 2, ground := Ground.data }], guard := none }) (v := ?_) rfl (by kernel_rfl) (by kernel_rfl) (by kernel_rfl) (fun _ _ _ h => h) (Or.inl ⟨by rfl, ?_⟩) (by assumption) ?_
  rotate_left 1
  · (intro W hSW; (try dsimp only at hSW); first | (go_simp; done) | (go_simp; with_reducible rfl))
  try simp only [Act.put, List.setIfInBounds_toArray, List.set_cons_zero, List.set_cons_succ]
  refine wpAnyH_take (i := 4) (oi := { dst := some 65, op := Op.move (Operand.tmp 64), type := 4, pos := "law.go:204", after := #[{ on := 3, ground := Ground.data }, { on := 2, ground := Ground.chain }], guard := none }) (v := ?_) rfl (by kernel_rfl) (by kernel_rfl) (by kernel_rfl) (fun _ _ _ h => h) (Or.inl ⟨by rfl, ?_⟩) (by assumption) ?_
  rotate_left 1
  · (intro W hSW; (try dsimp only at hSW); first | (go_simp; done) | (go_simp; with_reducible rfl))
  try simp only [Act.put, List.setIfInBounds_toArray, List.set_cons_zero, List.set_cons_succ]
  refine wpAnyH_take (i := 5) (oi := { dst := some 66, op := Op.load 27 (Operand.tmp 9), type := 27, pos := "law.go:204", after := #[{ on := 4, ground := Ground.guard }], guard := some (4, false) }) (v := ?_) rfl (by kernel_rfl) (by kernel_rfl) (by kernel_rfl) (fun _ _ _ h => h) (Or.inl ⟨by rfl, ?_⟩) (by assumption) ?_
  rotate_left 1
  · (intro W hSW; (try dsimp only at hSW); first | (go_simp; done) | (go_simp; with_reducible rfl))
  try simp only [Act.put, List.setIfInBounds_toArray, List.set_cons_zero, List.set_cons_succ]
  refine wpAnyH_take (i := 6) (oi := { dst := some 67, op := Op.load 27 (Operand.tmp 7), type := 27, pos := "law.go:204", after := #[{ on := 4, ground := Ground.guard }], guard := some (4, false) }) (v := ?_) rfl (by kernel_rfl) (by kernel_rfl) (by kernel_rfl) (fun _ _ _ h => h) (Or.inl ⟨by rfl, ?_⟩) (by assumption) ?_
  rotate_left 1
  · (intro W hSW; (try dsimp only at hSW); first | (go_simp; done) | (go_simp; with_reducible rfl))
  try simp only [Act.put, List.setIfInBounds_toArray, List.set_cons_zero, List.set_cons_succ]
  refine wpAnyH_take (i := 8) (oi := { dst := some 69, op := Op.load 27 (Operand.tmp 6), type := 27, pos := "law.go:204", after := #[{ on := 4, ground := Ground.guard }], guard := some (4, false) }) (v := ?_) rfl (by kernel_rfl) (by kernel_rfl) (by kernel_rfl) (fun _ _ _ h => h) (Or.inl ⟨by rfl, ?_⟩) (by assumption) ?_
  rotate_left 1
  · (intro W hSW; (try dsimp only at hSW); first | (go_simp; done) | (go_simp; with_reducible rfl))
  try simp only [Act.put, List.setIfInBounds_toArray, List.set_cons_zero, List.set_cons_succ]
  refine wpAnyH_ready (rs := [7]) (by kernel_rfl) (by simp) ?_
  refine (AllReadyH.cons (o := { dst := some 68, op := Op.call { callee := Callee.value (Operand.func 31), args := #[Operand.tmp 66, Operand.tmp 67], argTypes := #[27, 27] }, type := 27, pos := "law.go:204", after := #[{ on := 5, ground := Ground.data }, { on := 6, ground := Ground.data }, { on := 4, ground := Ground.chain }, { on := 4, ground := Ground.guard }], guard := some (4, false) }) rfl (fun K hK => ?_) AllReadyH.nil)
  rw [if_pos (by rfl)]
  go_simp
  go_at_call 31
  refine (diffV (k : Nat) (k : Nat) vL4.out vL2.out hn5 hk3 (by rw [← EL4.out, ← EL2.out]; exact EL8.out) ZL4.out ZL2.out ZL8.out _ _ _ _ _ (Hr1.out.grown hgr2) (Hb.out.grown hgr2)).mono ?_
  rintro e wc7 ⟨xr9, yr9, rfl, hrr9, gc7⟩
  have hgr7 := World.grownBy.trans hgr2 gc7
  go_wp2_with fail
  refine hK.out _ _ (HS.out _ hgr7) (fun hHeld => ?_)
  clear hK K
  try simp only [Act.put, List.setIfInBounds_toArray, List.set_cons_zero, List.set_cons_succ]
  refine wpAnyH_ready (rs := [9]) (by kernel_rfl) (by simp) ?_
  refine (AllReadyH.cons (o := { dst := some 70, op := Op.call { callee := Callee.value (Operand.func 35), args := #[Operand.tmp 68, Operand.tmp 69], argTypes := #[27, 27] }, type := 4, pos := "law.go:204", after := #[{ on := 7, ground := Ground.data }, { on := 8, ground := Ground.data }, { on := 7, ground := Ground.chain }, { on := 4, ground := Ground.guard }], guard := some (4, false) }) rfl (fun K hK => ?_) AllReadyH.nil)
  rw [if_pos (by rfl)]
  go_simp
  go_at_call 35
  refine (inV (k := k) (Q := true) (k : Nat) (k : Nat) vL8.out vL1.out hn5 hk3 (decide_eq_true Q10.out) ZL8.out ZL1.out _ _ _ _ _ hrr9 (Ha.out.grown hgr7)).mono ?_
  rintro e wc9 ⟨rfl, gc9⟩
  have hgr9 := World.grownBy.trans hgr7 gc9
  go_wp2_with fail
  refine hK.out _ _ (HS.out _ hgr9) (fun hHeld => ?_)
  clear hK K
  try simp only [Act.put, List.setIfInBounds_toArray, List.set_cons_zero, List.set_cons_succ]
  refine wpAnyH_take (i := 10) (oi := { dst := some 71, op := Op.unOp UnOp.not 4 (Operand.tmp 70), type := 4, pos := "law.go:204", after := #[{ on := 9, ground := Ground.data }, { on := 4, ground := Ground.guard }], guard := some (4, false) }) (v := ?_) rfl (by kernel_rfl) (by kernel_rfl) (by kernel_rfl) (fun _ _ _ h => h) (Or.inl ⟨by rfl, ?_⟩) (by assumption) ?_
  rotate_left 1
  · (intro W hSW; (try dsimp only at hSW); first | (go_simp; done) | (go_simp; with_reducible rfl))
  try simp only [Act.put, List.setIfInBounds_toArray, List.set_cons_zero, List.set_cons_succ]
  refine wpAnyH_take (i := 11) (oi := { dst := some 72, op := Op.pick (Operand.tmp 65) (Operand.const (Value.bool true)) (Operand.tmp 71), type := 4, pos := "law.go:204", after := #[{ on := 4, ground := Ground.data }, { on := 10, ground := Ground.data }], guard := none }) (v := ?_) rfl (by kernel_rfl) (by kernel_rfl) (by kernel_rfl) (fun _ _ _ h => h) (Or.inl ⟨by rfl, ?_⟩) (by assumption) ?_
  rotate_left 1
  · (intro W hSW; (try dsimp only at hSW); first | (go_simp; done) | (go_simp; with_reducible rfl))
  try simp only [Act.put, List.setIfInBounds_toArray, List.set_cons_zero, List.set_cons_succ]
  refine wpAnyH_take (i := 12) (oi := { dst := some 73, op := Op.move (Operand.tmp 72), type := 4, pos := "law.go:204", after := #[{ on := 11, ground := Ground.data }, { on := 9, ground := Ground.chain }], guard := none }) (v := ?_) rfl (by kernel_rfl) (by kernel_rfl) (by kernel_rfl) (fun _ _ _ h => h) (Or.inl ⟨by rfl, ?_⟩) (by assumption) ?_
  rotate_left 1
  · (intro W hSW; (try dsimp only at hSW); first | (go_simp; done) | (go_simp; with_reducible rfl))
  try simp only [Act.put, List.setIfInBounds_toArray, List.set_cons_zero, List.set_cons_succ]
  refine wpAnyH_take (i := 13) (oi := { dst := some 74, op := Op.move (Operand.tmp 4), type := 3, pos := "law.go:204", after := #[{ on := 12, ground := Ground.guard }], guard := some (12, false) }) (v := ?_) rfl (by kernel_rfl) (by kernel_rfl) (by kernel_rfl) (fun _ _ _ h => h) (Or.inl ⟨by rfl, ?_⟩) (by assumption) ?_
  rotate_left 1
  · (intro W hSW; (try dsimp only at hSW); first | (go_simp; done) | (go_simp; with_reducible rfl))
  try simp only [Act.put, List.setIfInBounds_toArray, List.set_cons_zero, List.set_cons_succ]
  refine wpAnyH_take (i := 14) (oi := { dst := some 75, op := Op.load 27 (Operand.tmp 9), type := 27, pos := "law.go:204", after := #[{ on := 12, ground := Ground.guard }], guard := some (12, false) }) (v := ?_) rfl (by kernel_rfl) (by kernel_rfl) (by kernel_rfl) (fun _ _ _ h => h) (Or.inl ⟨by rfl, ?_⟩) (by assumption) ?_
  rotate_left 1
  · (intro W hSW; (try dsimp only at hSW); first | (go_simp; done) | (go_simp; with_reducible rfl))
  try simp only [Act.put, List.setIfInBounds_toArray, List.set_cons_zero, List.set_cons_succ]
  refine wpAnyH_take (i := 15) (oi := { dst := some 76, op := Op.load 27 (Operand.tmp 8), type := 27, pos := "law.go:204", after := #[{ on := 12, ground := Ground.guard }], guard := some (12, false) }) (v := ?_) rfl (by kernel_rfl) (by kernel_rfl) (by kernel_rfl) (fun _ _ _ h => h) (Or.inl ⟨by rfl, ?_⟩) (by assumption) ?_
  rotate_left 1
  · (intro W hSW; (try dsimp only at hSW); first | (go_simp; done) | (go_simp; with_reducible rfl))
  try simp only [Act.put, List.setIfInBounds_toArray, List.set_cons_zero, List.set_cons_succ]
  refine wpAnyH_take (i := 17) (oi := { dst := some 78, op := Op.move (Operand.tmp 4), type := 3, pos := "law.go:204", after := #[{ on := 12, ground := Ground.guard }], guard := some (12, false) }) (v := ?_) rfl (by kernel_rfl) (by kernel_rfl) (by kernel_rfl) (fun _ _ _ h => h) (Or.inl ⟨by rfl, ?_⟩) (by assumption) ?_
  rotate_left 1
  · (intro W hSW; (try dsimp only at hSW); first | (go_simp; done) | (go_simp; with_reducible rfl))
  try simp only [Act.put, List.setIfInBounds_toArray, List.set_cons_zero, List.set_cons_succ]
  refine wpAnyH_take (i := 18) (oi := { dst := some 79, op := Op.load 27 (Operand.tmp 6), type := 27, pos := "law.go:204", after := #[{ on := 12, ground := Ground.guard }], guard := some (12, false) }) (v := ?_) rfl (by kernel_rfl) (by kernel_rfl) (by kernel_rfl) (fun _ _ _ h => h) (Or.inl ⟨by rfl, ?_⟩) (by assumption) ?_
  rotate_left 1
  · (intro W hSW; (try dsimp only at hSW); first | (go_simp; done) | (go_simp; with_reducible rfl))
  try simp only [Act.put, List.setIfInBounds_toArray, List.set_cons_zero, List.set_cons_succ]
  refine wpAnyH_take (i := 19) (oi := { dst := some 80, op := Op.move (Operand.tmp 4), type := 3, pos := "law.go:204", after := #[{ on := 12, ground := Ground.guard }], guard := some (12, false) }) (v := ?_) rfl (by kernel_rfl) (by kernel_rfl) (by kernel_rfl) (fun _ _ _ h => h) (Or.inl ⟨by rfl, ?_⟩) (by assumption) ?_
  rotate_left 1
  · (intro W hSW; (try dsimp only at hSW); first | (go_simp; done) | (go_simp; with_reducible rfl))
  try simp only [Act.put, List.setIfInBounds_toArray, List.set_cons_zero, List.set_cons_succ]
  refine wpAnyH_take (i := 20) (oi := { dst := some 81, op := Op.load 27 (Operand.tmp 7), type := 27, pos := "law.go:204", after := #[{ on := 12, ground := Ground.guard }], guard := some (12, false) }) (v := ?_) rfl (by kernel_rfl) (by kernel_rfl) (by kernel_rfl) (fun _ _ _ h => h) (Or.inl ⟨by rfl, ?_⟩) (by assumption) ?_
  rotate_left 1
  · (intro W hSW; (try dsimp only at hSW); first | (go_simp; done) | (go_simp; with_reducible rfl))
  try simp only [Act.put, List.setIfInBounds_toArray, List.set_cons_zero, List.set_cons_succ]
  refine wpAnyH_take (i := 21) (oi := { dst := some 82, op := Op.load 27 (Operand.tmp 8), type := 27, pos := "law.go:204", after := #[{ on := 12, ground := Ground.guard }], guard := some (12, false) }) (v := ?_) rfl (by kernel_rfl) (by kernel_rfl) (by kernel_rfl) (fun _ _ _ h => h) (Or.inl ⟨by rfl, ?_⟩) (by assumption) ?_
  rotate_left 1
  · (intro W hSW; (try dsimp only at hSW); first | (go_simp; done) | (go_simp; with_reducible rfl))
  try simp only [Act.put, List.setIfInBounds_toArray, List.set_cons_zero, List.set_cons_succ]
  refine wpAnyH_ready (rs := [16]) (by kernel_rfl) (by simp) ?_
  refine (AllReadyH.cons (o := { dst := some 77, op := Op.call { callee := Callee.value (Operand.func 33), args := #[Operand.tmp 74, Operand.tmp 75, Operand.tmp 76], argTypes := #[3, 27, 27] }, type := 27, pos := "law.go:204", after := #[{ on := 13, ground := Ground.data }, { on := 14, ground := Ground.data }, { on := 15, ground := Ground.data }, { on := 12, ground := Ground.chain }, { on := 12, ground := Ground.guard }], guard := some (12, false) }) rfl (fun K hK => ?_) AllReadyH.nil)
  rw [if_pos (by rfl)]
  go_simp
  go_at_call 33
  refine (overV (k := k) (j := k) vL4.out vL3.out hn1 hn5 hk3 hk1 hk3 (by rw [← EL4.out, ← EL3.out]; exact EL9.out) ZL4.out ZL3.out ZL9.out _ _ _ _ _ (Hr1.out.grown hgr9) (Hc.out.grown hgr9)).mono ?_
  rintro e wc16 ⟨xr11, yr11, rfl, hrr11, gc16⟩
  have hgr16 := World.grownBy.trans hgr9 gc16
  go_wp2_with fail
  refine hK.out _ _ (HS.out _ hgr16) (fun hHeld => ?_)
  clear hK K
  try simp only [Act.put, List.setIfInBounds_toArray, List.set_cons_zero, List.set_cons_succ]
  refine wpAnyH_ready (rs := [22]) (by kernel_rfl) (by simp) ?_
  refine (AllReadyH.cons (o := { dst := some 83, op := Op.call { callee := Callee.value (Operand.func 33), args := #[Operand.tmp 80, Operand.tmp 81, Operand.tmp 82], argTypes := #[3, 27, 27] }, type := 27, pos := "law.go:204", after := #[{ on := 19, ground := Ground.data }, { on := 20, ground := Ground.data }, { on := 21, ground := Ground.data }, { on := 16, ground := Ground.chain }, { on := 12, ground := Ground.guard }], guard := some (12, false) }) rfl (fun K hK => ?_) AllReadyH.nil)
  rw [if_pos (by rfl)]
  go_simp
  go_at_call 33
  refine (overV (k := k) (j := k) vL2.out vL3.out hn1 hn5 hk3 hk1 hk3 (by rw [← EL2.out, ← EL3.out]; exact EL10.out) ZL2.out ZL3.out ZL10.out _ _ _ _ _ (Hb.out.grown hgr16) (Hc.out.grown hgr16)).mono ?_
  rintro e wc22 ⟨xr12, yr12, rfl, hrr12, gc22⟩
  have hgr22 := World.grownBy.trans hgr16 gc22
  go_wp2_with fail
  refine hK.out _ _ (HS.out _ hgr22) (fun hHeld => ?_)
  clear hK K
  try simp only [Act.put, List.setIfInBounds_toArray, List.set_cons_zero, List.set_cons_succ]
  refine wpAnyH_ready (rs := [23]) (by kernel_rfl) (by simp) ?_
  refine (AllReadyH.cons (o := { dst := some 84, op := Op.call { callee := Callee.value (Operand.func 33), args := #[Operand.tmp 78, Operand.tmp 79, Operand.tmp 83], argTypes := #[3, 27, 27] }, type := 27, pos := "law.go:204", after := #[{ on := 17, ground := Ground.data }, { on := 18, ground := Ground.data }, { on := 22, ground := Ground.data }, { on := 22, ground := Ground.chain }, { on := 12, ground := Ground.guard }], guard := some (12, false) }) rfl (fun K hK => ?_) AllReadyH.nil)
  rw [if_pos (by rfl)]
  go_simp
  go_at_call 33
  refine (overV (k := k) (j := k) vL1.out vL10.out hn1 hn5 hk3 hk1 hk3 (by rw [← EL1.out, ← EL10.out]; exact EL11.out) ZL1.out ZL10.out ZL11.out _ _ _ _ _ (Ha.out.grown hgr22) hrr12).mono ?_
  rintro e wc23 ⟨xr13, yr13, rfl, hrr13, gc23⟩
  have hgr23 := World.grownBy.trans hgr22 gc23
  go_wp2_with fail
  refine hK.out _ _ (HS.out _ hgr23) (fun hHeld => ?_)
  clear hK K
  try simp only [Act.put, List.setIfInBounds_toArray, List.set_cons_zero, List.set_cons_succ]
  refine wpAnyH_ready (rs := [24]) (by kernel_rfl) (by simp) ?_
  refine (AllReadyH.cons (o := { dst := some 85, op := Op.call { callee := Callee.value (Operand.func 19), args := #[Operand.tmp 77, Operand.tmp 84], argTypes := #[27, 27] }, type := 4, pos := "law.go:204", after := #[{ on := 16, ground := Ground.data }, { on := 23, ground := Ground.data }, { on := 23, ground := Ground.chain }, { on := 12, ground := Ground.guard }], guard := some (12, false) }) rfl (fun K hK => ?_) AllReadyH.nil)
  rw [if_pos (by rfl)]
  go_simp
  go_at_call 19
  refine (equalV (k := k) (Q := true) (k : Nat) (k : Nat) vL9.out hn5 hk3 (eqQ _ Q14.out) ZL9.out ZL11.out _ _ _ _ _ (hrr11.grown (World.grownBy.trans gc22 gc23)) hrr13).mono ?_
  rintro e wc24 ⟨rfl, gc24⟩
  have hgr24 := World.grownBy.trans hgr23 gc24
  go_wp2_with fail
  refine hK.out _ _ (HS.out _ hgr24) (fun hHeld => ?_)
  clear hK K
  try simp only [Act.put, List.setIfInBounds_toArray, List.set_cons_zero, List.set_cons_succ]
  refine wpAnyH_take (i := 25) (oi := { dst := some 86, op := Op.unOp UnOp.not 4 (Operand.tmp 85), type := 4, pos := "law.go:204", after := #[{ on := 24, ground := Ground.data }, { on := 12, ground := Ground.guard }], guard := some (12, false) }) (v := ?_) rfl (by kernel_rfl) (by kernel_rfl) (by kernel_rfl) (fun _ _ _ h => h) (Or.inl ⟨by rfl, ?_⟩) (by assumption) ?_
  rotate_left 1
  · (intro W hSW; (try dsimp only at hSW); first | (go_simp; done) | (go_simp; with_reducible rfl))
  try simp only [Act.put, List.setIfInBounds_toArray, List.set_cons_zero, List.set_cons_succ]
  refine wpAnyH_take (i := 26) (oi := { dst := some 87, op := Op.pick (Operand.tmp 73) (Operand.const (Value.bool true)) (Operand.tmp 86), type := 4, pos := "law.go:204", after := #[{ on := 12, ground := Ground.data }, { on := 25, ground := Ground.data }], guard := none }) (v := ?_) rfl (by kernel_rfl) (by kernel_rfl) (by kernel_rfl) (fun _ _ _ h => h) (Or.inl ⟨by rfl, ?_⟩) (by assumption) ?_
  rotate_left 1
  · (intro W hSW; (try dsimp only at hSW); first | (go_simp; done) | (go_simp; with_reducible rfl))
  try simp only [Act.put, List.setIfInBounds_toArray, List.set_cons_zero, List.set_cons_succ]
  refine wpAnyH_done (by kernel_rfl) ?_ _
  have hEND := hgr24
  clear hHeld
  obtain ⟨V11, rfl⟩ : ∃ z, z = wc24 := ⟨_, rfl⟩
  replace Ha := Lib.hid (Ha.out.grown hEND)
  replace Hb := Lib.hid (Hb.out.grown hEND)
  replace Hc := Lib.hid (Hc.out.grown hEND)
  replace Hr1 := Lib.hid (Hr1.out.grown hEND)
  replace Hem := Lib.hid (Hem.out.grown hEND)
  replace HB6 := Lib.hid (And.intro (World.grownBy.cell hEND HB6.out.1 (by simp)) (World.grownBy.cell hEND HB6.out.2 (by simp)))
  replace HB7 := Lib.hid (And.intro (World.grownBy.cell hEND HB7.out.1 (by simp)) (World.grownBy.cell hEND HB7.out.2 (by simp)))
  replace HB8 := Lib.hid (And.intro (World.grownBy.cell hEND HB8.out.1 (by simp)) (World.grownBy.cell hEND HB8.out.2 (by simp)))
  replace HB9 := Lib.hid (And.intro (World.grownBy.cell hEND HB9.out.1 (by simp)) (World.grownBy.cell hEND HB9.out.2 (by simp)))
  replace HB10 := Lib.hid (And.intro (World.grownBy.cell hEND HB10.out.1 (by simp)) (World.grownBy.cell hEND HB10.out.2 (by simp)))
  replace HG := Lib.hid (World.grownBy.trans HG.out hEND)
  clear hEND HS hrr9 hrr11 hrr12 hrr13 hdr hgr2 hgr7 hgr9 hgr16 hgr22 hgr23 hgr24 gc2 gc7 gc9 gc16 gc22 gc23 gc24
  have qB60 := HB6.out.1
  have qB61 := HB6.out.2
  have qB70 := HB7.out.1
  have qB71 := HB7.out.2
  have qB80 := HB8.out.1
  have qB81 := HB8.out.2
  have qB90 := HB9.out.1
  have qB91 := HB9.out.2
  have qB100 := HB10.out.1
  have qB101 := HB10.out.2
  go_upto_region 12 with fail
  clear qB60 qB61 qB70 qB71 qB80 qB81 qB90 qB91 qB100 qB101
  have hpw := HPW.out
  have qB60 := HB6.out.1
  have qB61 := HB6.out.2
  have qB70 := HB7.out.1
  have qB71 := HB7.out.2
  have qB80 := HB8.out.1
  have qB81 := HB8.out.2
  have qB90 := HB9.out.1
  have qB91 := HB9.out.2
  have qB100 := HB10.out.1
  have qB101 := HB10.out.2
  go_wp2_with fail
  clear qB60 qB61 qB70 qB71 qB80 qB81 qB90 qB91 qB100 qB101
  clear hpw
  refine (power9_calls n (k - 1) _ (by omega) (by omega)).mono ?_
  rintro e w2 ⟨rfl, hw2⟩
  rw [hw2]
  clear hw2 w2
  rw [HP.out]
  have qB60 := HB6.out.1
  have qB61 := HB6.out.2
  have qB70 := HB7.out.1
  have qB71 := HB7.out.2
  have qB80 := HB8.out.1
  have qB81 := HB8.out.2
  have qB90 := HB9.out.1
  have qB91 := HB9.out.2
  have qB100 := HB10.out.1
  have qB101 := HB10.out.2
  go_upto_region 14 with fail
  clear qB60 qB61 qB70 qB71 qB80 qB81 qB90 qB91 qB100 qB101
  have Hab := Ha; have Hbb := Hb; have Hob := Hr1; have HGB := HG
  have hs6 := Six.new V11 (.int .i64 0) (.slice none 0 0) (.int .i64 0) (.slice none 0 0) (.int .i64 0) (.slice none 0 0) 29
  have g := World.grownBy_alloc V11 (.cells #[.int .i64 0, .slice none 0 0, .int .i64 0, .slice none 0 0, .int .i64 0, .slice none 0 0] 29) none
  obtain ⟨V12, hV12⟩ : ∃ z, World.alloc V11 (.cells #[.int .i64 0, .slice none 0 0, .int .i64 0, .slice none 0 0, .int .i64 0, .slice none 0 0] 29) = z := ⟨_, rfl⟩
  rw [hV12] at g hs6 ⊢
  clear hV12
  obtain ⟨bF, hb⟩ : ∃ b, V11.heap.size = b := ⟨_, rfl⟩
  rw [hb] at hs6 ⊢
  have HbF := Lib.hid hb
  have HUV := Lib.hid g
  clear hb
  replace Ha := Lib.hid (Ha.out.grown g)
  replace Hb := Lib.hid (Hb.out.grown g)
  replace Hc := Lib.hid (Hc.out.grown g)
  replace Hr1 := Lib.hid (Hr1.out.grown g)
  replace Hem := Lib.hid (Hem.out.grown g)
  replace HB6 := Lib.hid (And.intro (World.grownBy.cell g HB6.out.1 (by simp)) (World.grownBy.cell g HB6.out.2 (by simp)))
  replace HB7 := Lib.hid (And.intro (World.grownBy.cell g HB7.out.1 (by simp)) (World.grownBy.cell g HB7.out.2 (by simp)))
  replace HB8 := Lib.hid (And.intro (World.grownBy.cell g HB8.out.1 (by simp)) (World.grownBy.cell g HB8.out.2 (by simp)))
  replace HB9 := Lib.hid (And.intro (World.grownBy.cell g HB9.out.1 (by simp)) (World.grownBy.cell g HB9.out.2 (by simp)))
  replace HB10 := Lib.hid (And.intro (World.grownBy.cell g HB10.out.1 (by simp)) (World.grownBy.cell g HB10.out.2 (by simp)))
  replace HG := Lib.hid (World.grownBy.trans HG.out g)
  clear g
  have HF6 := Lib.hid hs6
  clear hs6
  have qB60 := HB6.out.1
  have qB61 := HB6.out.2
  have qB70 := HB7.out.1
  have qB71 := HB7.out.2
  have qB80 := HB8.out.1
  have qB81 := HB8.out.2
  have qB90 := HB9.out.1
  have qB91 := HB9.out.2
  have qB100 := HB10.out.1
  have qB101 := HB10.out.2
  go_upto_region 15 with fail
  clear qB60 qB61 qB70 qB71 qB80 qB81 qB90 qB91 qB100 qB101
  have hs6 := Six.new V12 (.int .i64 ((k : Nat) : Int)) (.slice xr1 lL4 yr1) (.int .i64 ((k : Nat) : Int)) (.slice xa lL1 ya) (.int .i64 ((k : Nat) : Int)) (.slice xb lL2 yb) 29
  have g := World.grownBy_alloc V12 (.cells #[.int .i64 ((k : Nat) : Int), .slice xr1 lL4 yr1, .int .i64 ((k : Nat) : Int), .slice xa lL1 ya, .int .i64 ((k : Nat) : Int), .slice xb lL2 yb] 29) none
  obtain ⟨V13, hV13⟩ : ∃ z, World.alloc V12 (.cells #[.int .i64 ((k : Nat) : Int), .slice xr1 lL4 yr1, .int .i64 ((k : Nat) : Int), .slice xa lL1 ya, .int .i64 ((k : Nat) : Int), .slice xb lL2 yb] 29) = z := ⟨_, rfl⟩
  rw [hV13] at g hs6 ⊢
  clear hV13
  obtain ⟨bW, hb⟩ : ∃ b, V12.heap.size = b := ⟨_, rfl⟩
  rw [hb] at hs6 ⊢
  have HNE := Lib.hid (show bF ≠ bW from Nat.ne_of_lt (by rw [← hb]; exact lies_lt HF6.out.1.1))
  replace HUV := Lib.hid (World.grownBy.trans HUV.out g)
  clear hb
  replace Ha := Lib.hid (Ha.out.grown g)
  replace Hb := Lib.hid (Hb.out.grown g)
  replace Hc := Lib.hid (Hc.out.grown g)
  replace Hr1 := Lib.hid (Hr1.out.grown g)
  replace Hem := Lib.hid (Hem.out.grown g)
  replace HB6 := Lib.hid (And.intro (World.grownBy.cell g HB6.out.1 (by simp)) (World.grownBy.cell g HB6.out.2 (by simp)))
  replace HB7 := Lib.hid (And.intro (World.grownBy.cell g HB7.out.1 (by simp)) (World.grownBy.cell g HB7.out.2 (by simp)))
  replace HB8 := Lib.hid (And.intro (World.grownBy.cell g HB8.out.1 (by simp)) (World.grownBy.cell g HB8.out.2 (by simp)))
  replace HB9 := Lib.hid (And.intro (World.grownBy.cell g HB9.out.1 (by simp)) (World.grownBy.cell g HB9.out.2 (by simp)))
  replace HB10 := Lib.hid (And.intro (World.grownBy.cell g HB10.out.1 (by simp)) (World.grownBy.cell g HB10.out.2 (by simp)))
  replace HF6 := Lib.hid (HF6.out.off g (fun x e => by cases e))
  replace HG := Lib.hid (World.grownBy.trans HG.out g)
  clear g
  have HT6 := Lib.hid hs6
  clear hs6
  have qB60 := HB6.out.1
  have qB61 := HB6.out.2
  have qB70 := HB7.out.1
  have qB71 := HB7.out.2
  have qB80 := HB8.out.1
  have qB81 := HB8.out.2
  have qB90 := HB9.out.1
  have qB91 := HB9.out.2
  have qB100 := HB10.out.1
  have qB101 := HB10.out.2
  go_upto_region 16 with fail
  clear qB60 qB61 qB70 qB71 qB80 qB81 qB90 qB91 qB100 qB101
  clear HB6 HB7 HB8 HB9 HB10 Ha Hb Hc Hr1 Hem HG
  go_loopg [14] 3 (fun g s14 wr => ∃ j : Nat, s14 = .int .i64 (j : Int) ∧ g = 3 - j ∧ j ≤ 3 ∧ FsAt wr bF j L12 L13 L14 ∧ Six wr bW (.int .i64 ((k : Nat) : Int)) (.slice xr1 lL4 yr1) (.int .i64 ((k : Nat) : Int)) (.slice xa lL1 ya) (.int .i64 ((k : Nat) : Int)) (.slice xb lL2 yb) ∧ V11.grownBy wr none)
  case atStart => exact ⟨0, rfl, rfl, Nat.zero_le _, ⟨_, _, _, _, _, _, HF6.out, fun q => absurd q (by omega), fun q => absurd q (by omega), fun q => absurd q (by omega)⟩, HT6.out, HUV.out⟩
  case round =>
    obtain ⟨j, rfl, hgk, hj, hfs, hw6, hgr⟩ := hrel
    have HFS := Lib.hid hfs; have HW6 := Lib.hid hw6; have HWR := Lib.hid hgr; have HI := Lib.hid hgk
    clear hfs hw6 hgr hgk
    by_cases hj3 : j < 3
    · obtain ⟨wo, rfl⟩ : ∃ z, z = wr := ⟨_, rfl⟩
      have hcase : j = 0 ∨ j = 1 ∨ j = 2 := by omega
      clear hj3 hj
      rcases hcase with rfl | rfl | rfl
      · have hcj : decide ((0 : Int) < 3) = true := rfl
        obtain ⟨⟨w0, w1, w2, w3, w4, w5⟩, _⟩ := HW6.out
        go_wp2_with fail
        clear w0 w1 w2 w3 w4 w5
        have hown0 := World.ownsRow_made (e := 3) (size := 1) wo #[] 0 (Nat.le_refl _) (Nat.zero_le _) rfl
        have ga := World.grownBy_alloc wo (.cells #[] 3) none
        obtain ⟨w1, hw1⟩ : ∃ z, World.alloc wo (.cells #[] 3) = z := ⟨_, rfl⟩
        rw [hw1] at ga hown0 ⊢
        clear hw1
        have HO0 := Lib.hid (And.intro hown0 ga); clear hown0 ga
        go_loopg [15, 16] lL4 (fun g s15 s16 wr => ∃ i : Nat, s16 = .int .i64 (i : Int) ∧ g = lL4 - i ∧ i ≤ lL4 ∧ wr.ownsRow wo.heap.size 3 1 s15 i (intCells (divL p (L4.take i))) ∧ wo.grownBy wr none)
        case atStart => exact ⟨0, rfl, rfl, Nat.zero_le _, HO0.out.1, HO0.out.2⟩
        case round =>
          obtain ⟨i, rfl, hgk, hi, hown, hgr⟩ := hrel
          obtain ⟨va, vc, rfl⟩ := own_shape hown
          have HOWN := Lib.hid hown; have HWI := Lib.hid hgr; have HII := Lib.hid hgk
          clear hown hgr hgk
          obtain ⟨⟨w0, w1, w2, w3, w4, w5⟩, _⟩ := HW6.out.off HWI.out (fun x e => by cases e)
          by_cases hin : i < lL4
          · have hinB : decide (i < lL4) = true := by simpa using hin
            have hinI : (i : Int) < (lL4 : Int) := by omega
            obtain ⟨z, hz⟩ : ∃ z, L4[i]? = some z := ⟨_, List.getElem?_eq_getElem (by rw [ZL4.out]; exact hin)⟩
            obtain ⟨b, off, rfl, e2⟩ := (Hob.out.grown (World.grownBy.trans HWR.out HWI.out)).at hz
            obtain ⟨m, rfl, hm⟩ := vL4.out.nat (List.mem_of_getElem? hz)
            have hmB : m < 125 := Nat.lt_of_lt_of_le hm (Nat.le_trans (Nat.pow_le_pow_left hn5 k) (Nat.pow_le_pow_right (by omega) hk3))
            have HT := Lib.hid (show divL p (L4.take (i + 1)) = divL p (L4.take i) ++ [((m : Nat) : Int) / ((p : Nat) : Int)] from div_take hz)
            obtain ⟨q, hq⟩ : ∃ q, m / p = q := ⟨_, rfl⟩
            have hqi : ((m : Nat) : Int) / (p : Int) = (q : Int) := by rw [← hq]; rfl
            have hq2 : q ≤ 125 := by rw [← hq]; exact Nat.le_trans (Nat.div_le_self _ _) (by omega)
            have hwq : IntKind.i64.wrap (q : Int) = (q : Int) := IntWalk.i64_in _ (by omega)
            have hr0 : p ≠ 0 := by have := HP.out; have h2 : 0 < n ^ (k - 1) := Nat.pow_pos (by omega); omega
            have hHT := HT.out
            rw [hqi] at hHT
            replace HT := Lib.hid hHT
            clear hHT hz hq hm hmB hq2
            have HLT := Lib.hid (show lL4 ≤ 125 by rw [← ZL4.out]; exact vL4.out.len125 hn5 hk3)
            have hlB : lL4 ≤ 125 := HLT.out
            go_wp2_with (at_builtin; refine wpList_append_own_at _ rfl _ _ 25 rfl wo.heap.size 3 i0 (.int .i64 0) 1 8 Try.underlying25 hi0 hz0 hz1 hz2 rfl (by decide) _ i (intCells (divL p (L4.take i))) rfl (HOWN.out.alloc _) ⟨wr.heap.size, 0, none⟩ 1 1 [.int .i64 (q : Int)] rfl rfl (cell_one_new _ _ _) (ints_oneCell .i64 [(q : Int)]) (by have := HLT.out; unfold maxLen; omega) (by have := HLT.out; omega) (by have := World.grownBy.size HWI.out; simp; omega) ?_)
            intro v' w6 hown' hgrow6 _ hat6
            clear w0 w1 w2 w3 w4 w5 e2
            have hgs := grown_own (World.grownBy.trans HWI.out (World.grownBy_alloc wr _ none)) hgrow6 (fun x hx => (HOWN.out.lt x hx).1)
            have hown2 : w6.ownsRow wo.heap.size 3 1 v' (i + 1) (intCells (divL p (L4.take (i + 1)))) := by rw [HT.out, intCells, List.map_append]; exact hown'
            have HE := Lib.hid (And.intro hown2 hgs)
            clear hown' hgrow6 hat6 hgs hown2
            go_wp2_with fail
            go_roundg (lL4 - (i + 1))
            case measure => rw [HII.out]; omega
            case rel => exact ⟨i + 1, rfl, rfl, by omega, HE.out.1, HE.out.2⟩
          · have hie : i = lL4 := by omega
            subst hie
            have hinB : decide (i < i) = false := by simp
            have hall : L4.take i = L4 := List.take_of_length_le (by rw [ZL4.out]; exact Nat.le_refl _)
            rw [hall] at HOWN
            clear hall
            have hrow := (ints_span (l := divL p L4) (by rw [divL_len, ZL4.out]; exact HOWN.out))
            obtain ⟨a1, c1, hsh, hsp⟩ := hrow
            injection hsh with ha1 hle1 hc1
            clear hle1
            subst ha1 hc1
            have HROW := Lib.hid (And.intro hsp.here.weak (show (divL p L4).length = i by rw [divL_len]; exact ZL4.out))
            clear hsp
            go_wp2_with fail
            clear w0 w1 w2 w3 w4 w5
            refine (ofV HROW.out.1 HROW.out.2 (by have := vL4.out.len125 hn5 hk3; have := ZL4.out; omega) EL12.out).mono ?_
            rintro e wcc ⟨xr, yr, rfl, hsr, gcc⟩
            rw [ZL12.out]
            have HGC := Lib.hid (World.grownBy.trans HWI.out gcc)
            clear gcc
            obtain ⟨f0, f1, f2, f3, f4, f5, hs6, hr1, hr2, hr3⟩ := HFS.out.grown HGC.out
            have hst := six_set0 hs6 (.int .i64 1) (.slice xr lL12 yr)
            have hlo : bF < wr.heap.size := by obtain ⟨_, _, _, _, _, _, h6, _⟩ := HFS.out.grown HWI.out; exact lies_lt h6.1.1
            have hgs := grown_own (World.grownBy.trans HWR.out HGC.out) hst.2 (fun x e => by cases e; rw [← HbF.out]; exact Nat.le_refl _)
            have hrow : FRow _ bF (.int .i64 1) (.slice xr lL12 yr) L12 := ⟨rfl, xr, yr, by rw [ZL12.out], wr.heap.size, _, hlo, hsr.off hst.2 (fun x e => by cases e; exact .inl hlo)⟩
            have hw6 := (HW6.out.off HGC.out (fun x e => by cases e)).off hst.2 (fun x e => by cases e; exact HNE.out)
            have hfs : FsAt _ bF 1 L12 L13 L14 := ⟨_, _, _, _, _, _, hst.1, fun _ => hrow, fun q => absurd q (by omega), fun q => absurd q (by omega)⟩
            have HE := Lib.hid (And.intro hfs (And.intro hw6 hgs))
            clear hst hrow hr1 hr2 hr3 hfs hw6 hgs hlo hsr
            obtain ⟨⟨q0, q1, q2, q3, q4, q5⟩, qf⟩ := hs6
            have qf0 := qf 0
            have qf1 := qf 1
            have qf2 := qf 2
            have qf3 := qf 3
            have qf4 := qf 4
            have qf5 := qf 5
            clear qf
            go_wp2_with fail
            go_roundg (3 - 1)
            case measure => have := HI.out; omega
            case rel => exact ⟨1, rfl, rfl, by omega, HE.out.1, HE.out.2.1, HE.out.2.2⟩
      · have hcj : decide ((1 : Int) < 3) = true := rfl
        obtain ⟨⟨w0, w1, w2, w3, w4, w5⟩, _⟩ := HW6.out
        go_wp2_with fail
        clear w0 w1 w2 w3 w4 w5
        have hown0 := World.ownsRow_made (e := 3) (size := 1) wo #[] 0 (Nat.le_refl _) (Nat.zero_le _) rfl
        have ga := World.grownBy_alloc wo (.cells #[] 3) none
        obtain ⟨w1, hw1⟩ : ∃ z, World.alloc wo (.cells #[] 3) = z := ⟨_, rfl⟩
        rw [hw1] at ga hown0 ⊢
        clear hw1
        have HO0 := Lib.hid (And.intro hown0 ga); clear hown0 ga
        go_loopg [15, 16] lL1 (fun g s15 s16 wr => ∃ i : Nat, s16 = .int .i64 (i : Int) ∧ g = lL1 - i ∧ i ≤ lL1 ∧ wr.ownsRow wo.heap.size 3 1 s15 i (intCells (divL p (L1.take i))) ∧ wo.grownBy wr none)
        case atStart => exact ⟨0, rfl, rfl, Nat.zero_le _, HO0.out.1, HO0.out.2⟩
        case round =>
          obtain ⟨i, rfl, hgk, hi, hown, hgr⟩ := hrel
          obtain ⟨va, vc, rfl⟩ := own_shape hown
          have HOWN := Lib.hid hown; have HWI := Lib.hid hgr; have HII := Lib.hid hgk
          clear hown hgr hgk
          obtain ⟨⟨w0, w1, w2, w3, w4, w5⟩, _⟩ := HW6.out.off HWI.out (fun x e => by cases e)
          by_cases hin : i < lL1
          · have hinB : decide (i < lL1) = true := by simpa using hin
            have hinI : (i : Int) < (lL1 : Int) := by omega
            obtain ⟨z, hz⟩ : ∃ z, L1[i]? = some z := ⟨_, List.getElem?_eq_getElem (by rw [ZL1.out]; exact hin)⟩
            obtain ⟨b, off, rfl, e2⟩ := (Hab.out.grown (World.grownBy.trans HWR.out HWI.out)).at hz
            obtain ⟨m, rfl, hm⟩ := vL1.out.nat (List.mem_of_getElem? hz)
            have hmB : m < 125 := Nat.lt_of_lt_of_le hm (Nat.le_trans (Nat.pow_le_pow_left hn5 k) (Nat.pow_le_pow_right (by omega) hk3))
            have HT := Lib.hid (show divL p (L1.take (i + 1)) = divL p (L1.take i) ++ [((m : Nat) : Int) / ((p : Nat) : Int)] from div_take hz)
            obtain ⟨q, hq⟩ : ∃ q, m / p = q := ⟨_, rfl⟩
            have hqi : ((m : Nat) : Int) / (p : Int) = (q : Int) := by rw [← hq]; rfl
            have hq2 : q ≤ 125 := by rw [← hq]; exact Nat.le_trans (Nat.div_le_self _ _) (by omega)
            have hwq : IntKind.i64.wrap (q : Int) = (q : Int) := IntWalk.i64_in _ (by omega)
            have hr0 : p ≠ 0 := by have := HP.out; have h2 : 0 < n ^ (k - 1) := Nat.pow_pos (by omega); omega
            have hHT := HT.out
            rw [hqi] at hHT
            replace HT := Lib.hid hHT
            clear hHT hz hq hm hmB hq2
            have HLT := Lib.hid (show lL1 ≤ 125 by rw [← ZL1.out]; exact vL1.out.len125 hn5 hk3)
            have hlB : lL1 ≤ 125 := HLT.out
            go_wp2_with (at_builtin; refine wpList_append_own_at _ rfl _ _ 25 rfl wo.heap.size 3 i0 (.int .i64 0) 1 8 Try.underlying25 hi0 hz0 hz1 hz2 rfl (by decide) _ i (intCells (divL p (L1.take i))) rfl (HOWN.out.alloc _) ⟨wr.heap.size, 0, none⟩ 1 1 [.int .i64 (q : Int)] rfl rfl (cell_one_new _ _ _) (ints_oneCell .i64 [(q : Int)]) (by have := HLT.out; unfold maxLen; omega) (by have := HLT.out; omega) (by have := World.grownBy.size HWI.out; simp; omega) ?_)
            intro v' w6 hown' hgrow6 _ hat6
            clear w0 w1 w2 w3 w4 w5 e2
            have hgs := grown_own (World.grownBy.trans HWI.out (World.grownBy_alloc wr _ none)) hgrow6 (fun x hx => (HOWN.out.lt x hx).1)
            have hown2 : w6.ownsRow wo.heap.size 3 1 v' (i + 1) (intCells (divL p (L1.take (i + 1)))) := by rw [HT.out, intCells, List.map_append]; exact hown'
            have HE := Lib.hid (And.intro hown2 hgs)
            clear hown' hgrow6 hat6 hgs hown2
            go_wp2_with fail
            go_roundg (lL1 - (i + 1))
            case measure => rw [HII.out]; omega
            case rel => exact ⟨i + 1, rfl, rfl, by omega, HE.out.1, HE.out.2⟩
          · have hie : i = lL1 := by omega
            subst hie
            have hinB : decide (i < i) = false := by simp
            have hall : L1.take i = L1 := List.take_of_length_le (by rw [ZL1.out]; exact Nat.le_refl _)
            rw [hall] at HOWN
            clear hall
            have hrow := (ints_span (l := divL p L1) (by rw [divL_len, ZL1.out]; exact HOWN.out))
            obtain ⟨a1, c1, hsh, hsp⟩ := hrow
            injection hsh with ha1 hle1 hc1
            clear hle1
            subst ha1 hc1
            have HROW := Lib.hid (And.intro hsp.here.weak (show (divL p L1).length = i by rw [divL_len]; exact ZL1.out))
            clear hsp
            go_wp2_with fail
            clear w0 w1 w2 w3 w4 w5
            refine (ofV HROW.out.1 HROW.out.2 (by have := vL1.out.len125 hn5 hk3; have := ZL1.out; omega) EL13.out).mono ?_
            rintro e wcc ⟨xr, yr, rfl, hsr, gcc⟩
            rw [ZL13.out]
            have HGC := Lib.hid (World.grownBy.trans HWI.out gcc)
            clear gcc
            obtain ⟨f0, f1, f2, f3, f4, f5, hs6, hr1, hr2, hr3⟩ := HFS.out.grown HGC.out
            have hst := six_set1 hs6 (.int .i64 1) (.slice xr lL13 yr)
            have hlo : bF < wr.heap.size := by obtain ⟨_, _, _, _, _, _, h6, _⟩ := HFS.out.grown HWI.out; exact lies_lt h6.1.1
            have hgs := grown_own (World.grownBy.trans HWR.out HGC.out) hst.2 (fun x e => by cases e; rw [← HbF.out]; exact Nat.le_refl _)
            have hrow : FRow _ bF (.int .i64 1) (.slice xr lL13 yr) L13 := ⟨rfl, xr, yr, by rw [ZL13.out], wr.heap.size, _, hlo, hsr.off hst.2 (fun x e => by cases e; exact .inl hlo)⟩
            have hw6 := (HW6.out.off HGC.out (fun x e => by cases e)).off hst.2 (fun x e => by cases e; exact HNE.out)
            have hfs : FsAt _ bF 2 L12 L13 L14 := ⟨_, _, _, _, _, _, hst.1, fun _ => (hr1 (by omega)).off hst.2 (fun x e => by cases e; exact Nat.le_refl _), fun _ => hrow, fun q => absurd q (by omega)⟩
            have HE := Lib.hid (And.intro hfs (And.intro hw6 hgs))
            clear hst hrow hr1 hr2 hr3 hfs hw6 hgs hlo hsr
            obtain ⟨⟨q0, q1, q2, q3, q4, q5⟩, qf⟩ := hs6
            have qf0 := qf 0
            have qf1 := qf 1
            have qf2 := qf 2
            have qf3 := qf 3
            have qf4 := qf 4
            have qf5 := qf 5
            clear qf
            go_wp2_with fail
            go_roundg (3 - 2)
            case measure => have := HI.out; omega
            case rel => exact ⟨2, rfl, rfl, by omega, HE.out.1, HE.out.2.1, HE.out.2.2⟩
      · have hcj : decide ((2 : Int) < 3) = true := rfl
        obtain ⟨⟨w0, w1, w2, w3, w4, w5⟩, _⟩ := HW6.out
        go_wp2_with fail
        clear w0 w1 w2 w3 w4 w5
        have hown0 := World.ownsRow_made (e := 3) (size := 1) wo #[] 0 (Nat.le_refl _) (Nat.zero_le _) rfl
        have ga := World.grownBy_alloc wo (.cells #[] 3) none
        obtain ⟨w1, hw1⟩ : ∃ z, World.alloc wo (.cells #[] 3) = z := ⟨_, rfl⟩
        rw [hw1] at ga hown0 ⊢
        clear hw1
        have HO0 := Lib.hid (And.intro hown0 ga); clear hown0 ga
        go_loopg [15, 16] lL2 (fun g s15 s16 wr => ∃ i : Nat, s16 = .int .i64 (i : Int) ∧ g = lL2 - i ∧ i ≤ lL2 ∧ wr.ownsRow wo.heap.size 3 1 s15 i (intCells (divL p (L2.take i))) ∧ wo.grownBy wr none)
        case atStart => exact ⟨0, rfl, rfl, Nat.zero_le _, HO0.out.1, HO0.out.2⟩
        case round =>
          obtain ⟨i, rfl, hgk, hi, hown, hgr⟩ := hrel
          obtain ⟨va, vc, rfl⟩ := own_shape hown
          have HOWN := Lib.hid hown; have HWI := Lib.hid hgr; have HII := Lib.hid hgk
          clear hown hgr hgk
          obtain ⟨⟨w0, w1, w2, w3, w4, w5⟩, _⟩ := HW6.out.off HWI.out (fun x e => by cases e)
          by_cases hin : i < lL2
          · have hinB : decide (i < lL2) = true := by simpa using hin
            have hinI : (i : Int) < (lL2 : Int) := by omega
            obtain ⟨z, hz⟩ : ∃ z, L2[i]? = some z := ⟨_, List.getElem?_eq_getElem (by rw [ZL2.out]; exact hin)⟩
            obtain ⟨b, off, rfl, e2⟩ := (Hbb.out.grown (World.grownBy.trans HWR.out HWI.out)).at hz
            obtain ⟨m, rfl, hm⟩ := vL2.out.nat (List.mem_of_getElem? hz)
            have hmB : m < 125 := Nat.lt_of_lt_of_le hm (Nat.le_trans (Nat.pow_le_pow_left hn5 k) (Nat.pow_le_pow_right (by omega) hk3))
            have HT := Lib.hid (show divL p (L2.take (i + 1)) = divL p (L2.take i) ++ [((m : Nat) : Int) / ((p : Nat) : Int)] from div_take hz)
            obtain ⟨q, hq⟩ : ∃ q, m / p = q := ⟨_, rfl⟩
            have hqi : ((m : Nat) : Int) / (p : Int) = (q : Int) := by rw [← hq]; rfl
            have hq2 : q ≤ 125 := by rw [← hq]; exact Nat.le_trans (Nat.div_le_self _ _) (by omega)
            have hwq : IntKind.i64.wrap (q : Int) = (q : Int) := IntWalk.i64_in _ (by omega)
            have hr0 : p ≠ 0 := by have := HP.out; have h2 : 0 < n ^ (k - 1) := Nat.pow_pos (by omega); omega
            have hHT := HT.out
            rw [hqi] at hHT
            replace HT := Lib.hid hHT
            clear hHT hz hq hm hmB hq2
            have HLT := Lib.hid (show lL2 ≤ 125 by rw [← ZL2.out]; exact vL2.out.len125 hn5 hk3)
            have hlB : lL2 ≤ 125 := HLT.out
            go_wp2_with (at_builtin; refine wpList_append_own_at _ rfl _ _ 25 rfl wo.heap.size 3 i0 (.int .i64 0) 1 8 Try.underlying25 hi0 hz0 hz1 hz2 rfl (by decide) _ i (intCells (divL p (L2.take i))) rfl (HOWN.out.alloc _) ⟨wr.heap.size, 0, none⟩ 1 1 [.int .i64 (q : Int)] rfl rfl (cell_one_new _ _ _) (ints_oneCell .i64 [(q : Int)]) (by have := HLT.out; unfold maxLen; omega) (by have := HLT.out; omega) (by have := World.grownBy.size HWI.out; simp; omega) ?_)
            intro v' w6 hown' hgrow6 _ hat6
            clear w0 w1 w2 w3 w4 w5 e2
            have hgs := grown_own (World.grownBy.trans HWI.out (World.grownBy_alloc wr _ none)) hgrow6 (fun x hx => (HOWN.out.lt x hx).1)
            have hown2 : w6.ownsRow wo.heap.size 3 1 v' (i + 1) (intCells (divL p (L2.take (i + 1)))) := by rw [HT.out, intCells, List.map_append]; exact hown'
            have HE := Lib.hid (And.intro hown2 hgs)
            clear hown' hgrow6 hat6 hgs hown2
            go_wp2_with fail
            go_roundg (lL2 - (i + 1))
            case measure => rw [HII.out]; omega
            case rel => exact ⟨i + 1, rfl, rfl, by omega, HE.out.1, HE.out.2⟩
          · have hie : i = lL2 := by omega
            subst hie
            have hinB : decide (i < i) = false := by simp
            have hall : L2.take i = L2 := List.take_of_length_le (by rw [ZL2.out]; exact Nat.le_refl _)
            rw [hall] at HOWN
            clear hall
            have hrow := (ints_span (l := divL p L2) (by rw [divL_len, ZL2.out]; exact HOWN.out))
            obtain ⟨a1, c1, hsh, hsp⟩ := hrow
            injection hsh with ha1 hle1 hc1
            clear hle1
            subst ha1 hc1
            have HROW := Lib.hid (And.intro hsp.here.weak (show (divL p L2).length = i by rw [divL_len]; exact ZL2.out))
            clear hsp
            go_wp2_with fail
            clear w0 w1 w2 w3 w4 w5
            refine (ofV HROW.out.1 HROW.out.2 (by have := vL2.out.len125 hn5 hk3; have := ZL2.out; omega) EL14.out).mono ?_
            rintro e wcc ⟨xr, yr, rfl, hsr, gcc⟩
            rw [ZL14.out]
            have HGC := Lib.hid (World.grownBy.trans HWI.out gcc)
            clear gcc
            obtain ⟨f0, f1, f2, f3, f4, f5, hs6, hr1, hr2, hr3⟩ := HFS.out.grown HGC.out
            have hst := six_set2 hs6 (.int .i64 1) (.slice xr lL14 yr)
            have hlo : bF < wr.heap.size := by obtain ⟨_, _, _, _, _, _, h6, _⟩ := HFS.out.grown HWI.out; exact lies_lt h6.1.1
            have hgs := grown_own (World.grownBy.trans HWR.out HGC.out) hst.2 (fun x e => by cases e; rw [← HbF.out]; exact Nat.le_refl _)
            have hrow : FRow _ bF (.int .i64 1) (.slice xr lL14 yr) L14 := ⟨rfl, xr, yr, by rw [ZL14.out], wr.heap.size, _, hlo, hsr.off hst.2 (fun x e => by cases e; exact .inl hlo)⟩
            have hw6 := (HW6.out.off HGC.out (fun x e => by cases e)).off hst.2 (fun x e => by cases e; exact HNE.out)
            have hfs : FsAt _ bF 3 L12 L13 L14 := ⟨_, _, _, _, _, _, hst.1, fun _ => (hr1 (by omega)).off hst.2 (fun x e => by cases e; exact Nat.le_refl _), fun _ => (hr2 (by omega)).off hst.2 (fun x e => by cases e; exact Nat.le_refl _), fun _ => hrow⟩
            have HE := Lib.hid (And.intro hfs (And.intro hw6 hgs))
            clear hst hrow hr1 hr2 hr3 hfs hw6 hgs hlo hsr
            obtain ⟨⟨q0, q1, q2, q3, q4, q5⟩, qf⟩ := hs6
            have qf0 := qf 0
            have qf1 := qf 1
            have qf2 := qf 2
            have qf3 := qf 3
            have qf4 := qf 4
            have qf5 := qf 5
            clear qf
            go_wp2_with fail
            go_roundg (3 - 3)
            case measure => have := HI.out; omega
            case rel => exact ⟨3, rfl, rfl, by omega, HE.out.1, HE.out.2.1, HE.out.2.2⟩
    · have hje : j = 3 := by omega
      subst hje
      have hcj : decide ((3 : Int) < 3) = false := rfl
      clear hj hj3
      obtain ⟨f0, f1, f2, f3, f4, f5, hs6, hr0, hr1, hr2⟩ := HFS.out
      obtain ⟨rfl, xfi0, yfi0, rfl, lo0, hi0, hl0, hp0⟩ := hr0 (by omega)
      obtain ⟨rfl, xfi1, yfi1, rfl, lo1, hi1, hl1, hp1⟩ := hr1 (by omega)
      obtain ⟨rfl, xfi2, yfi2, rfl, lo2, hi2, hl2, hp2⟩ := hr2 (by omega)
      rw [ZL12.out] at hs6
      rw [ZL13.out] at hs6
      rw [ZL14.out] at hs6
      have Hfi0 := Lib.hid hp0.here; have Hfi1 := Lib.hid hp1.here; have Hfi2 := Lib.hid hp2.here
      have HQ6 := Lib.hid hs6
      have HG := Lib.hid (World.grownBy.trans HGB.out HWR.out)
      obtain ⟨VL, rfl⟩ : ∃ z, z = wr := ⟨_, rfl⟩
      clear hr0 hr1 hr2 hl0 hl1 hl2 hp0 hp1 hp2 hs6
      obtain ⟨⟨q0, q1, q2, q3, q4, q5⟩, _⟩ := HQ6.out
      go_upto_region 24 with fail
      clear q0 q1 q2 q3 q4 q5
      have HS := Lib.hid (fun (Wh : World) (hWh : VL.grownBy Wh none) => (⟨hWh, hWh.cell HQ6.out.1.1 (by simp), hWh.cell HQ6.out.1.2.1 (by simp), hWh.cell HQ6.out.1.2.2.1 (by simp), hWh.cell HQ6.out.1.2.2.2.1 (by simp), hWh.cell HQ6.out.1.2.2.2.2.1 (by simp), hWh.cell HQ6.out.1.2.2.2.2.2 (by simp)⟩ : (fun Wh : World => VL.grownBy Wh none ∧ Wh.cell? ⟨bF, 0, none⟩ = some (.int .i64 1) ∧ Wh.cell? ⟨bF, 1, none⟩ = some (.slice xfi0 lL12 yfi0) ∧ Wh.cell? ⟨bF, 2, none⟩ = some (.int .i64 1) ∧ Wh.cell? ⟨bF, 3, none⟩ = some (.slice xfi1 lL13 yfi1) ∧ Wh.cell? ⟨bF, 4, none⟩ = some (.int .i64 1) ∧ Wh.cell? ⟨bF, 5, none⟩ = some (.slice xfi2 lL14 yfi2)) Wh))
      have hdr : VL.grownBy VL.drew none := ⟨rfl, rfl, rfl, Nat.le_refl _, fun _ _ _ => rfl⟩
      refine wp_region_held_drew (S := (fun Wh : World => VL.grownBy Wh none ∧ Wh.cell? ⟨bF, 0, none⟩ = some (.int .i64 1) ∧ Wh.cell? ⟨bF, 1, none⟩ = some (.slice xfi0 lL12 yfi0) ∧ Wh.cell? ⟨bF, 2, none⟩ = some (.int .i64 1) ∧ Wh.cell? ⟨bF, 3, none⟩ = some (.slice xfi1 lL13 yfi1) ∧ Wh.cell? ⟨bF, 4, none⟩ = some (.int .i64 1) ∧ Wh.cell? ⟨bF, 5, none⟩ = some (.slice xfi2 lL14 yfi2))) (by kernel_rfl) (HS.out _ hdr) (fun hHeld => ?_)
      refine wpAnyH_take (i := 0) (oi := { dst := some 128, op := Op.move (Operand.tmp 3), type := 4, pos := "law.go:217", after := #[], guard := none }) (v := ?_) rfl (by kernel_rfl) (by kernel_rfl) (by kernel_rfl) (fun _ _ _ h => h) (Or.inl ⟨by rfl, ?_⟩) (by assumption) ?_
      rotate_left 1
      · (intro W hSW; (try dsimp only at hSW); first | (go_simp; done) | (go_simp; with_reducible rfl))
      try simp only [Act.put, List.setIfInBounds_toArray, List.set_cons_zero, List.set_cons_succ]
      refine wpAnyH_take (i := 1) (oi := { dst := some 129, op := Op.move (Operand.tmp 128), type := 4, pos := "law.go:217", after := #[{ on := 0, ground := Ground.data }], guard := none }) (v := ?_) rfl (by kernel_rfl) (by kernel_rfl) (by kernel_rfl) (fun _ _ _ h => h) (Or.inl ⟨by rfl, ?_⟩) (by assumption) ?_
      rotate_left 1
      · (intro W hSW; (try dsimp only at hSW); first | (go_simp; done) | (go_simp; with_reducible rfl))
      try simp only [Act.put, List.setIfInBounds_toArray, List.set_cons_zero, List.set_cons_succ]
      refine wpAnyH_take (i := 2) (oi := { dst := some 130, op := Op.indexAddr 29 (Operand.tmp 12) (Operand.const (Value.int IntKind.i64 0)), type := 0, pos := "law.go:217", after := #[{ on := 1, ground := Ground.guard }], guard := some (1, true) }) (v := ?_) rfl (by kernel_rfl) (by kernel_rfl) (by kernel_rfl) (fun _ _ _ h => h) (Or.inl ⟨by rfl, ?_⟩) (by assumption) ?_
      rotate_left 1
      · (intro W hSW; (try dsimp only at hSW); first | (go_simp; done) | (go_simp; with_reducible rfl))
      try simp only [Act.put, List.setIfInBounds_toArray, List.set_cons_zero, List.set_cons_succ]
      refine wpAnyH_take (i := 3) (oi := { dst := some 131, op := Op.load 27 (Operand.tmp 130), type := 27, pos := "law.go:217", after := #[{ on := 2, ground := Ground.data }, { on := 1, ground := Ground.guard }], guard := some (1, true) }) (v := ?_) rfl (by kernel_rfl) (by kernel_rfl) (by kernel_rfl) (fun _ _ _ h => h) (Or.inl ⟨by rfl, ?_⟩) (by assumption) ?_
      rotate_left 1
      · (intro W hSW; (try dsimp only at hSW); first | (go_simp; done) | (go_simp; with_reducible rfl))
      try simp only [Act.put, List.setIfInBounds_toArray, List.set_cons_zero, List.set_cons_succ]
      refine wpAnyH_take (i := 4) (oi := { dst := some 132, op := Op.indexAddr 29 (Operand.tmp 12) (Operand.const (Value.int IntKind.i64 1)), type := 0, pos := "law.go:217", after := #[{ on := 1, ground := Ground.guard }], guard := some (1, true) }) (v := ?_) rfl (by kernel_rfl) (by kernel_rfl) (by kernel_rfl) (fun _ _ _ h => h) (Or.inl ⟨by rfl, ?_⟩) (by assumption) ?_
      rotate_left 1
      · (intro W hSW; (try dsimp only at hSW); first | (go_simp; done) | (go_simp; with_reducible rfl))
      try simp only [Act.put, List.setIfInBounds_toArray, List.set_cons_zero, List.set_cons_succ]
      refine wpAnyH_take (i := 5) (oi := { dst := some 133, op := Op.load 27 (Operand.tmp 132), type := 27, pos := "law.go:217", after := #[{ on := 4, ground := Ground.data }, { on := 1, ground := Ground.guard }], guard := some (1, true) }) (v := ?_) rfl (by kernel_rfl) (by kernel_rfl) (by kernel_rfl) (fun _ _ _ h => h) (Or.inl ⟨by rfl, ?_⟩) (by assumption) ?_
      rotate_left 1
      · (intro W hSW; (try dsimp only at hSW); first | (go_simp; done) | (go_simp; with_reducible rfl))
      try simp only [Act.put, List.setIfInBounds_toArray, List.set_cons_zero, List.set_cons_succ]
      refine wpAnyH_take (i := 6) (oi := { dst := some 134, op := Op.indexAddr 29 (Operand.tmp 12) (Operand.const (Value.int IntKind.i64 2)), type := 0, pos := "law.go:217", after := #[{ on := 1, ground := Ground.guard }], guard := some (1, true) }) (v := ?_) rfl (by kernel_rfl) (by kernel_rfl) (by kernel_rfl) (fun _ _ _ h => h) (Or.inl ⟨by rfl, ?_⟩) (by assumption) ?_
      rotate_left 1
      · (intro W hSW; (try dsimp only at hSW); first | (go_simp; done) | (go_simp; with_reducible rfl))
      try simp only [Act.put, List.setIfInBounds_toArray, List.set_cons_zero, List.set_cons_succ]
      refine wpAnyH_take (i := 7) (oi := { dst := some 135, op := Op.load 27 (Operand.tmp 134), type := 27, pos := "law.go:217", after := #[{ on := 6, ground := Ground.data }, { on := 1, ground := Ground.guard }], guard := some (1, true) }) (v := ?_) rfl (by kernel_rfl) (by kernel_rfl) (by kernel_rfl) (fun _ _ _ h => h) (Or.inl ⟨by rfl, ?_⟩) (by assumption) ?_
      rotate_left 1
      · (intro W hSW; (try dsimp only at hSW); first | (go_simp; done) | (go_simp; with_reducible rfl))
      try simp only [Act.put, List.setIfInBounds_toArray, List.set_cons_zero, List.set_cons_succ]
      refine wpAnyH_ready (rs := [8]) (by kernel_rfl) (by simp) ?_
      refine (AllReadyH.cons (o := { dst := some 136, op := Op.call { callee := Callee.value (Operand.func 27), args := #[Operand.tmp 133, Operand.tmp 135], argTypes := #[27, 27] }, type := 27, pos := "law.go:217", after := #[{ on := 5, ground := Ground.data }, { on := 7, ground := Ground.data }, { on := 1, ground := Ground.chain }, { on := 1, ground := Ground.guard }], guard := some (1, true) }) rfl (fun K hK => ?_) AllReadyH.nil)
      rw [if_pos (by rfl)]
      go_simp
      go_at_call 27
      refine (unionV (1 : Nat) (1 : Nat) vL13.out vL14.out hn5 (by omega) (by rw [← EL13.out, ← EL14.out]; exact EL15.out) ZL13.out ZL14.out ZL15.out _ _ _ _ _ (Hfi1.out.grown hdr) (Hfi2.out.grown hdr)).mono ?_
      rintro e wc8 ⟨xr15, yr15, rfl, hrr15, gc8⟩
      have hgr8 := World.grownBy.trans hdr gc8
      go_wp2_with fail
      refine hK.out _ _ (HS.out _ hgr8) (fun hHeld => ?_)
      clear hK K
      try simp only [Act.put, List.setIfInBounds_toArray, List.set_cons_zero, List.set_cons_succ]
      refine wpAnyH_ready (rs := [9]) (by kernel_rfl) (by simp) ?_
      refine (AllReadyH.cons (o := { dst := some 137, op := Op.call { callee := Callee.value (Operand.func 19), args := #[Operand.tmp 131, Operand.tmp 136], argTypes := #[27, 27] }, type := 4, pos := "law.go:217", after := #[{ on := 3, ground := Ground.data }, { on := 8, ground := Ground.data }, { on := 8, ground := Ground.chain }, { on := 1, ground := Ground.guard }], guard := some (1, true) }) rfl (fun K hK => ?_) AllReadyH.nil)
      rw [if_pos (by rfl)]
      go_simp
      go_at_call 19
      refine (equalV (k := 1) (Q := true) (1 : Nat) (1 : Nat) vL12.out hn5 (by omega) (eqQ _ Q16.out) ZL12.out ZL15.out _ _ _ _ _ (Hfi0.out.grown hgr8) hrr15).mono ?_
      rintro e wc9 ⟨rfl, gc9⟩
      have hgr9 := World.grownBy.trans hgr8 gc9
      go_wp2_with fail
      refine hK.out _ _ (HS.out _ hgr9) (fun hHeld => ?_)
      clear hK K
      try simp only [Act.put, List.setIfInBounds_toArray, List.set_cons_zero, List.set_cons_succ]
      refine wpAnyH_take (i := 10) (oi := { dst := some 138, op := Op.pick (Operand.tmp 129) (Operand.tmp 137) (Operand.const (Value.bool false)), type := 4, pos := "law.go:217", after := #[{ on := 1, ground := Ground.data }, { on := 9, ground := Ground.data }], guard := none }) (v := ?_) rfl (by kernel_rfl) (by kernel_rfl) (by kernel_rfl) (fun _ _ _ h => h) (Or.inl ⟨by rfl, ?_⟩) (by assumption) ?_
      rotate_left 1
      · (intro W hSW; (try dsimp only at hSW); first | (go_simp; done) | (go_simp; with_reducible rfl))
      try simp only [Act.put, List.setIfInBounds_toArray, List.set_cons_zero, List.set_cons_succ]
      refine wpAnyH_take (i := 11) (oi := { dst := some 2, op := Op.assign (Operand.tmp 138), type := 4, pos := "law.go:217", after := #[{ on := 10, ground := Ground.data }, { on := 9, ground := Ground.chain }, { on := 0, ground := Ground.phase }, { on := 1, ground := Ground.phase }, { on := 2, ground := Ground.phase }, { on := 3, ground := Ground.phase }, { on := 4, ground := Ground.phase }, { on := 5, ground := Ground.phase }, { on := 6, ground := Ground.phase }, { on := 7, ground := Ground.phase }, { on := 8, ground := Ground.phase }, { on := 9, ground := Ground.phase }, { on := 10, ground := Ground.phase }], guard := none }) (v := ?_) rfl (by kernel_rfl) (by kernel_rfl) (by kernel_rfl) (fun _ _ _ h => h) (Or.inl ⟨by rfl, ?_⟩) (by assumption) ?_
      rotate_left 1
      · (intro W hSW; (try dsimp only at hSW); first | (go_simp; done) | (go_simp; with_reducible rfl))
      try simp only [Act.put, List.setIfInBounds_toArray, List.set_cons_zero, List.set_cons_succ]
      refine wpAnyH_done (by kernel_rfl) ?_ _
      have hEND := hgr9
      clear hHeld
      have HE := Lib.hid (World.grownBy.trans HG.out hEND)
      clear hEND
      go_wp2_with fail
      go_ret
      exact ⟨rfl, HE.out⟩
end Go.Proofs.Ytkoigonbncpbaaa
