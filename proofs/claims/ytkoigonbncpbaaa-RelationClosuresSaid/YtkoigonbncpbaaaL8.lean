/- RelationClosures: the law walked. -/
import Derived.Test.YtkoigonbncpbaaaM1
import Derived.Test.YtkoigonbncpbaaaC1
namespace Go.Proofs.Ytkoigonbncpbaaa
open Go.RowKit Go.Shelf

theorem closL_sub {n : Nat} {A : List Int} (hA : VR n 2 A) : ∀ z ∈ A, z ∈ uniq (closS n A) := vr_sub hA fun _ _ h => clos_sub h
theorem closL_twice {n : Nat} {A : List Int} (hA : VR n 2 A) (hn : 1 ≤ n) : ∀ z ∈ uniq (joinP n (n ^ (2 - 1)) (uniq (closS n A)) (uniq (closS n A))), z ∈ uniq (closS n A) :=
  vr2_sub (VR.join2 hA.clos hA.clos hn) fun x y hx hy h => by
    obtain ⟨m, hm, h1, h2⟩ := (hs_join2 hA.clos hA.clos hn hy).1 h
    exact clos_trans hA hx hm hy h1 h2
theorem closL_more {n : Nat} {A B : List Int} (hA : VR n 2 A) (hB : VR n 2 B) : ∀ z ∈ uniq (closS n A), z ∈ uniq (closS n (unionL A B)) :=
  vr2_sub hA.clos fun _x _y hx hy h => clos_min (fun x y => Hs (uniq (closS n (unionL A B))) (x * n + y)) (fun _x _y _ _ h => clos_sub ((hs_union hA hB).2 (.inl h))) (fun _x _m _y hx hm hy h1 h2 => clos_trans (hA.union hB) hx hm hy h1 h2) hx hy h
theorem closL_least {n : Nat} {A B : List Int} (hA : VR n 2 A) (hB : VR n 2 B) (hn : 1 ≤ n) (h : ∀ z ∈ uniq (joinP n (n ^ (2 - 1)) (unionL A B) (unionL A B)), z ∈ unionL A B) : ∀ z ∈ uniq (closS n A), z ∈ unionL A B :=
  vr2_sub hA.clos fun _x _y hx hy hz => clos_min (fun x y => Hs (unionL A B) (x * n + y)) (fun _x _y _ _ h => (hs_union hA hB).2 (.inl h)) (fun _x m _y _hx hm hy h1 h2 => h _ ((hs_join2 (hA.union hB) (hA.union hB) hn hy).2 ⟨m, hm, h1, h2⟩)) hx hy hz
theorem closL_step {n : Nat} {A : List Int} (hA : VR n 2 A) (hn : 1 ≤ n) : uniq (closS n A) = unionL A (uniq (joinP n (n ^ (2 - 1)) A (uniq (closS n A)))) :=
  vr2_ext hA.clos (hA.union (VR.join2 hA hA.clos hn)) fun x y hx hy => by
    rw [hs_union hA (VR.join2 hA hA.clos hn), hs_join2 hA hA.clos hn hy]
    constructor
    · refine clos_min (fun x y => Hs A (x * n + y) ∨ ∃ m, m < n ∧ Hs A (x * n + m) ∧ Hs (uniq (closS n A)) (m * n + y)) (fun x y _ _ h => .inl h) (fun x m y hx hm hy h1 h2 => ?_) hx hy
      have h3 : Hs (uniq (closS n A)) (m * n + y) := by
        rcases h2 with h2 | ⟨k, hk, h2, h2'⟩
        · exact clos_sub h2
        · exact clos_trans hA hm hk hy (clos_sub h2) h2'
      rcases h1 with h1 | ⟨k, hk, h1, h1'⟩
      · exact .inr ⟨m, hm, h1, h3⟩
      · exact .inr ⟨k, hk, h1, clos_trans hA hk hm hy h1' h3⟩
    · rintro (h | ⟨m, hm, h1, h2⟩)
      · exact clos_sub h
      · exact clos_trans hA hx hm hy (clos_sub h1) h2
theorem closL_idem {n : Nat} {A : List Int} (hA : VR n 2 A) : uniq (closS n (uniq (closS n A))) = uniq (closS n A) :=
  vr2_ext hA.clos.clos hA.clos fun _x _y hx hy => ⟨clos_min (fun x y => Hs (uniq (closS n A)) (x * n + y)) (fun _ _ _ _ h => h) (fun _x _m _y hx hm hy h1 h2 => clos_trans hA hx hm hy h1 h2) hx hy, clos_sub⟩
theorem closL_turn {n : Nat} {A : List Int} (hA : VR n 2 A) (hn : 1 ≤ n) : uniq (closS n (uniq (turnL n A))) = uniq (turnL n (uniq (closS n A))) :=
  vr2_ext (hA.turn hn).clos (hA.clos.turn hn) fun x y hx hy => by
    rw [hs_turn hA.clos hx hy]
    constructor
    · exact clos_min (fun x y => Hs (uniq (closS n A)) (y * n + x)) (fun x y hx hy h => clos_sub ((hs_turn hA hx hy).1 h)) (fun x m y hx hm hy h1 h2 => clos_trans hA hy hm hx h2 h1) hx hy
    · exact clos_min (fun x y => Hs (uniq (closS n (uniq (turnL n A)))) (y * n + x)) (fun x y hx hy h => clos_sub ((hs_turn hA hy hx).2 h)) (fun x m y hx hm hy h1 h2 => clos_trans (hA.turn hn) hy hm hx h2 h1) hy hx

set_option maxRecDepth 100000 in
set_option maxHeartbeats 20000000 in
theorem closures_true (N Ar : Nat) (A0 B0 C0 : List Nat) (aa ab ac : Option Addr) (ca cb cc : Nat) (W0 : World) (h : RawAt W0 N Ar A0 B0 C0 aa ab ac ca cb cc) (hQ : ∀ z ∈ uniq (joinP (1 + N % 5) ((1 + N % 5) ^ (2 - 1)) (unionL (fromL (1 + N % 5) 2 A0) (fromL (1 + N % 5) 2 B0)) (unionL (fromL (1 + N % 5) 2 A0) (fromL (1 + N % 5) 2 B0))), z ∈ unionL (fromL (1 + N % 5) 2 A0) (fromL (1 + N % 5) 2 B0)) :
    Calls Try.prog 8 #[.agg #[.int .u8 (N : Int), .int .u8 (Ar : Int), .slice aa A0.length ca, .slice ab B0.length cb, .slice ac C0.length cc]] W0 fun e w' => e = .returned (.bool true) ∧ W0.grownBy w' none := by
  have HAT := Lib.hid (fun U => atoms_calls N h.hN U)
  obtain ⟨n, hn⟩ : ∃ n, 1 + N % 5 = n := ⟨_, rfl⟩
  rw [hn] at HAT hQ
  have hn1 : 1 ≤ n := by omega
  have hn5 : n ≤ 5 := by omega
  clear hn
  obtain ⟨L1, hL1⟩ : ∃ l : List Int, fromL n 2 A0 = l := ⟨_, rfl⟩
  have vL1 := Lib.hid (by rw [← hL1]; exact VR.from n 2 A0 hn1 : VR n (2) L1)
  obtain ⟨lL1, hlL1⟩ : ∃ l, L1.length = l := ⟨_, rfl⟩
  have EL1 := Lib.hid hL1
  have ZL1 := Lib.hid hlL1
  clear hL1 hlL1
  obtain ⟨L2, hL2⟩ : ∃ l : List Int, fromL n 2 B0 = l := ⟨_, rfl⟩
  have vL2 := Lib.hid (by rw [← hL2]; exact VR.from n 2 B0 hn1 : VR n (2) L2)
  obtain ⟨lL2, hlL2⟩ : ∃ l, L2.length = l := ⟨_, rfl⟩
  have EL2 := Lib.hid hL2
  have ZL2 := Lib.hid hlL2
  clear hL2 hlL2
  obtain ⟨L3, hL3⟩ : ∃ l : List Int, uniq (closS n (fromL n 2 A0)) = l := ⟨_, rfl⟩
  have vL3 := Lib.hid (by rw [← hL3]; exact VR.clos (by rw [EL1.out]; exact vL1.out) : VR n (2) L3)
  obtain ⟨lL3, hlL3⟩ : ∃ l, L3.length = l := ⟨_, rfl⟩
  have EL3 := Lib.hid hL3
  have ZL3 := Lib.hid hlL3
  clear hL3 hlL3
  obtain ⟨L4, hL4⟩ : ∃ l : List Int, uniq (joinP n (n ^ (2 - 1)) (uniq (closS n (fromL n 2 A0))) (uniq (closS n (fromL n 2 A0)))) = l := ⟨_, rfl⟩
  have vL4 := Lib.hid (by rw [← hL4]; exact (by have h := VR.join (n := n) (k := 2) (j := 2) (A := uniq (closS n (fromL n 2 A0))) (B := uniq (closS n (fromL n 2 A0))) (by rw [EL3.out]; exact vL3.out) (by rw [EL3.out]; exact vL3.out) hn1 (by omega) (by omega); rw [show 2 + 2 - 2 = 2 by omega] at h; exact h) : VR n (2) L4)
  obtain ⟨lL4, hlL4⟩ : ∃ l, L4.length = l := ⟨_, rfl⟩
  have EL4 := Lib.hid hL4
  have ZL4 := Lib.hid hlL4
  clear hL4 hlL4
  obtain ⟨L5, hL5⟩ : ∃ l : List Int, unionL (fromL n 2 A0) (fromL n 2 B0) = l := ⟨_, rfl⟩
  have vL5 := Lib.hid (by rw [← hL5]; exact VR.union (by rw [EL1.out]; exact vL1.out) (by rw [EL2.out]; exact vL2.out) : VR n (2) L5)
  obtain ⟨lL5, hlL5⟩ : ∃ l, L5.length = l := ⟨_, rfl⟩
  have EL5 := Lib.hid hL5
  have ZL5 := Lib.hid hlL5
  clear hL5 hlL5
  obtain ⟨L6, hL6⟩ : ∃ l : List Int, uniq (closS n (unionL (fromL n 2 A0) (fromL n 2 B0))) = l := ⟨_, rfl⟩
  have vL6 := Lib.hid (by rw [← hL6]; exact VR.clos (by rw [EL5.out]; exact vL5.out) : VR n (2) L6)
  obtain ⟨lL6, hlL6⟩ : ∃ l, L6.length = l := ⟨_, rfl⟩
  have EL6 := Lib.hid hL6
  have ZL6 := Lib.hid hlL6
  clear hL6 hlL6
  obtain ⟨L7, hL7⟩ : ∃ l : List Int, uniq (joinP n (n ^ (2 - 1)) (unionL (fromL n 2 A0) (fromL n 2 B0)) (unionL (fromL n 2 A0) (fromL n 2 B0))) = l := ⟨_, rfl⟩
  have vL7 := Lib.hid (by rw [← hL7]; exact (by have h := VR.join (n := n) (k := 2) (j := 2) (A := unionL (fromL n 2 A0) (fromL n 2 B0)) (B := unionL (fromL n 2 A0) (fromL n 2 B0)) (by rw [EL5.out]; exact vL5.out) (by rw [EL5.out]; exact vL5.out) hn1 (by omega) (by omega); rw [show 2 + 2 - 2 = 2 by omega] at h; exact h) : VR n (2) L7)
  obtain ⟨lL7, hlL7⟩ : ∃ l, L7.length = l := ⟨_, rfl⟩
  have EL7 := Lib.hid hL7
  have ZL7 := Lib.hid hlL7
  clear hL7 hlL7
  have Q7 := Lib.hid (show ∀ z ∈ L1, z ∈ L3 from by rw [← EL1.out, ← EL3.out]; exact closL_sub (VR.from n 2 A0 hn1))
  have Q8 := Lib.hid (show ∀ z ∈ L4, z ∈ L3 from by rw [← EL4.out, ← EL3.out]; exact closL_twice (VR.from n 2 A0 hn1) hn1)
  have Q9 := Lib.hid (show ∀ z ∈ L3, z ∈ L6 from by rw [← EL3.out, ← EL6.out]; exact closL_more (VR.from n 2 A0 hn1) (VR.from n 2 B0 hn1))
  have Q10 := Lib.hid (show ∀ z ∈ L7, z ∈ L5 from by rw [← EL7.out, ← EL5.out]; exact hQ)
  have Q11 := Lib.hid (show ∀ z ∈ L3, z ∈ L5 from by rw [← EL3.out, ← EL5.out]; exact closL_least (VR.from n 2 A0 hn1) (VR.from n 2 B0 hn1) hn1 hQ)
  obtain ⟨L8, hL8⟩ : ∃ l : List Int, uniq (joinP n (n ^ (2 - 1)) (fromL n 2 A0) (uniq (closS n (fromL n 2 A0)))) = l := ⟨_, rfl⟩
  have vL8 := Lib.hid (by rw [← hL8]; exact (by have h := VR.join (n := n) (k := 2) (j := 2) (A := fromL n 2 A0) (B := uniq (closS n (fromL n 2 A0))) (by rw [EL1.out]; exact vL1.out) (by rw [EL3.out]; exact vL3.out) hn1 (by omega) (by omega); rw [show 2 + 2 - 2 = 2 by omega] at h; exact h) : VR n (2) L8)
  obtain ⟨lL8, hlL8⟩ : ∃ l, L8.length = l := ⟨_, rfl⟩
  have EL8 := Lib.hid hL8
  have ZL8 := Lib.hid hlL8
  clear hL8 hlL8
  obtain ⟨L9, hL9⟩ : ∃ l : List Int, unionL (fromL n 2 A0) (uniq (joinP n (n ^ (2 - 1)) (fromL n 2 A0) (uniq (closS n (fromL n 2 A0))))) = l := ⟨_, rfl⟩
  have vL9 := Lib.hid (by rw [← hL9]; exact VR.union (by rw [EL1.out]; exact vL1.out) (by rw [EL8.out]; exact vL8.out) : VR n (2) L9)
  obtain ⟨lL9, hlL9⟩ : ∃ l, L9.length = l := ⟨_, rfl⟩
  have EL9 := Lib.hid hL9
  have ZL9 := Lib.hid hlL9
  clear hL9 hlL9
  have Q14 := Lib.hid (show L3 = L9 from by rw [← EL3.out, ← EL9.out]; exact closL_step (VR.from n 2 A0 hn1) hn1)
  obtain ⟨L10, hL10⟩ : ∃ l : List Int, uniq (closS n (uniq (closS n (fromL n 2 A0)))) = l := ⟨_, rfl⟩
  have vL10 := Lib.hid (by rw [← hL10]; exact VR.clos (by rw [EL3.out]; exact vL3.out) : VR n (2) L10)
  obtain ⟨lL10, hlL10⟩ : ∃ l, L10.length = l := ⟨_, rfl⟩
  have EL10 := Lib.hid hL10
  have ZL10 := Lib.hid hlL10
  clear hL10 hlL10
  have Q16 := Lib.hid (show L10 = L3 from by rw [← EL10.out, ← EL3.out]; exact closL_idem (VR.from n 2 A0 hn1))
  obtain ⟨L11, hL11⟩ : ∃ l : List Int, uniq (turnL n (fromL n 2 A0)) = l := ⟨_, rfl⟩
  have vL11 := Lib.hid (by rw [← hL11]; exact VR.turn (by rw [EL1.out]; exact vL1.out) hn1 : VR n (2) L11)
  obtain ⟨lL11, hlL11⟩ : ∃ l, L11.length = l := ⟨_, rfl⟩
  have EL11 := Lib.hid hL11
  have ZL11 := Lib.hid hlL11
  clear hL11 hlL11
  obtain ⟨L12, hL12⟩ : ∃ l : List Int, uniq (closS n (uniq (turnL n (fromL n 2 A0)))) = l := ⟨_, rfl⟩
  have vL12 := Lib.hid (by rw [← hL12]; exact VR.clos (by rw [EL11.out]; exact vL11.out) : VR n (2) L12)
  obtain ⟨lL12, hlL12⟩ : ∃ l, L12.length = l := ⟨_, rfl⟩
  have EL12 := Lib.hid hL12
  have ZL12 := Lib.hid hlL12
  clear hL12 hlL12
  obtain ⟨L13, hL13⟩ : ∃ l : List Int, uniq (turnL n (uniq (closS n (fromL n 2 A0)))) = l := ⟨_, rfl⟩
  have vL13 := Lib.hid (by rw [← hL13]; exact VR.turn (by rw [EL3.out]; exact vL3.out) hn1 : VR n (2) L13)
  obtain ⟨lL13, hlL13⟩ : ∃ l, L13.length = l := ⟨_, rfl⟩
  have EL13 := Lib.hid hL13
  have ZL13 := Lib.hid hlL13
  clear hL13 hlL13
  have Q20 := Lib.hid (show L12 = L13 from by rw [← EL12.out, ← EL13.out]; exact closL_turn (VR.from n 2 A0 hn1) hn1)
  obtain ⟨lA0, hlA0⟩ : ∃ l, A0.length = l := ⟨_, rfl⟩
  obtain ⟨lB0, hlB0⟩ : ∃ l, B0.length = l := ⟨_, rfl⟩
  obtain ⟨lC0, hlC0⟩ : ∃ l, C0.length = l := ⟨_, rfl⟩
  have ZA0 := Lib.hid hlA0; have ZB0 := Lib.hid hlB0; have ZC0 := Lib.hid hlC0
  rw [hlA0, hlB0, hlC0]
  clear hlA0 hlB0 hlC0
  have hg := World.grownBy_alloc W0 (.cells #[.int .u8 (N : Int), .int .u8 (Ar : Int), .slice aa lA0 ca, .slice ab lB0 cb, .slice ac lC0 cc] 24) none
  have hb0 : (W0.alloc (.cells #[.int .u8 (N : Int), .int .u8 (Ar : Int), .slice aa lA0 ca, .slice ab lB0 cb, .slice ac lC0 cc] 24)).cell? ⟨W0.heap.size, 0, none⟩ = some (.int .u8 (N : Int)) := by go_simp
  have hb1 : (W0.alloc (.cells #[.int .u8 (N : Int), .int .u8 (Ar : Int), .slice aa lA0 ca, .slice ab lB0 cb, .slice ac lC0 cc] 24)).cell? ⟨W0.heap.size, 1, none⟩ = some (.int .u8 (Ar : Int)) := by go_simp
  have hb2 : (W0.alloc (.cells #[.int .u8 (N : Int), .int .u8 (Ar : Int), .slice aa lA0 ca, .slice ab lB0 cb, .slice ac lC0 cc] 24)).cell? ⟨W0.heap.size, 2, none⟩ = some (.slice aa lA0 ca) := by go_simp
  have hb3 : (W0.alloc (.cells #[.int .u8 (N : Int), .int .u8 (Ar : Int), .slice aa lA0 ca, .slice ab lB0 cb, .slice ac lC0 cc] 24)).cell? ⟨W0.heap.size, 3, none⟩ = some (.slice ab lB0 cb) := by go_simp
  have hb4 : (W0.alloc (.cells #[.int .u8 (N : Int), .int .u8 (Ar : Int), .slice aa lA0 ca, .slice ab lB0 cb, .slice ac lC0 cc] 24)).cell? ⟨W0.heap.size, 4, none⟩ = some (.slice ac lC0 cc) := by go_simp
  obtain ⟨V0, hV0⟩ : ∃ V, W0.alloc (.cells #[.int .u8 (N : Int), .int .u8 (Ar : Int), .slice aa lA0 ca, .slice ab lB0 cb, .slice ac lC0 cc] 24) = V := ⟨_, rfl⟩
  rw [hV0] at hg hb0 hb1 hb2 hb3 hb4
  have HG := Lib.hid hg
  have HRB := Lib.hid (And.intro hb0 (And.intro hb1 (And.intro hb2 (And.intro hb3 hb4))))
  have HR := Lib.hid (h.grown hg)
  clear hg hb0 hb1 hb2 hb3 hb4 h
  go_enter Try.func8, Try.ntmps8
  have qr0 := HRB.out.1
  have qr1 := HRB.out.2.1
  have qr2 := HRB.out.2.2.1
  have qr3 := HRB.out.2.2.2.1
  have qr4 := HRB.out.2.2.2.2
  go_upto_region 1 with fail
  clear qr0 qr1 qr2 qr3 qr4
  clear hV0
  have qr0 := HRB.out.1
  have qr1 := HRB.out.2.1
  have qr2 := HRB.out.2.2.1
  have qr3 := HRB.out.2.2.2.1
  have qr4 := HRB.out.2.2.2.2
  go_wp2_with fail
  clear qr0 qr1 qr2 qr3 qr4
  refine (head_calls _).mono ?_
  rintro e V1 ⟨rfl, g⟩
  replace HRB := Lib.hid (And.intro (World.grownBy.cell g HRB.out.1 (by simp)) (And.intro (World.grownBy.cell g HRB.out.2.1 (by simp)) (And.intro (World.grownBy.cell g HRB.out.2.2.1 (by simp)) (And.intro (World.grownBy.cell g HRB.out.2.2.2.1 (by simp)) (World.grownBy.cell g HRB.out.2.2.2.2 (by simp))))))
  replace HR := Lib.hid (HR.out.grown g)
  replace HG := Lib.hid (World.grownBy.trans HG.out g)
  clear g
  have qr0 := HRB.out.1
  have qr1 := HRB.out.2.1
  have qr2 := HRB.out.2.2.1
  have qr3 := HRB.out.2.2.2.1
  have qr4 := HRB.out.2.2.2.2
  go_upto_region 2 with fail
  clear qr0 qr1 qr2 qr3 qr4
  have qr0 := HRB.out.1
  have qr1 := HRB.out.2.1
  have qr2 := HRB.out.2.2.1
  have qr3 := HRB.out.2.2.2.1
  have qr4 := HRB.out.2.2.2.2
  go_wp2_with fail
  clear qr0 qr1 qr2 qr3 qr4
  refine (HAT.out _).mono ?_
  rintro e w2 ⟨rfl, hw2⟩
  rw [hw2]
  clear hw2 w2
  have qr0 := HRB.out.1
  have qr1 := HRB.out.2.1
  have qr2 := HRB.out.2.2.1
  have qr3 := HRB.out.2.2.2.1
  have qr4 := HRB.out.2.2.2.2
  go_upto_region 3 with fail
  clear qr0 qr1 qr2 qr3 qr4
  have qr0 := HRB.out.1
  have qr1 := HRB.out.2.1
  have qr2 := HRB.out.2.2.1
  have qr3 := HRB.out.2.2.2.1
  have qr4 := HRB.out.2.2.2.2
  go_wp2_with fail
  clear qr0 qr1 qr2 qr3 qr4
  refine (fromV (n := n) (k := 2) hn1 hn5 (by omega) HR.out.lA EL1.out ZA0.out ZL1.out _ _ _ HR.out.hA).mono ?_
  rintro e V2 ⟨xa, ya, rfl, hr, g⟩
  replace HRB := Lib.hid (And.intro (World.grownBy.cell g HRB.out.1 (by simp)) (And.intro (World.grownBy.cell g HRB.out.2.1 (by simp)) (And.intro (World.grownBy.cell g HRB.out.2.2.1 (by simp)) (And.intro (World.grownBy.cell g HRB.out.2.2.2.1 (by simp)) (World.grownBy.cell g HRB.out.2.2.2.2 (by simp))))))
  replace HR := Lib.hid (HR.out.grown g)
  replace HG := Lib.hid (World.grownBy.trans HG.out g)
  clear g
  have Ha := Lib.hid hr
  clear hr
  have qr0 := HRB.out.1
  have qr1 := HRB.out.2.1
  have qr2 := HRB.out.2.2.1
  have qr3 := HRB.out.2.2.2.1
  have qr4 := HRB.out.2.2.2.2
  go_upto_region 4 with fail
  clear qr0 qr1 qr2 qr3 qr4
  have hbx := one_cells V2 (.int .i64 2) (.slice xa lL1 ya) 27
  have g := World.grownBy_alloc V2 (.cells #[.int .i64 2, .slice xa lL1 ya] 27) none
  obtain ⟨V3, hV3⟩ : ∃ z, World.alloc V2 (.cells #[.int .i64 2, .slice xa lL1 ya] 27) = z := ⟨_, rfl⟩
  rw [hV3] at g hbx ⊢
  clear hV3
  obtain ⟨bB5, hb⟩ : ∃ b, V2.heap.size = b := ⟨_, rfl⟩
  rw [hb] at hbx ⊢
  clear hb
  replace Ha := Lib.hid (Ha.out.grown g)
  replace HRB := Lib.hid (And.intro (World.grownBy.cell g HRB.out.1 (by simp)) (And.intro (World.grownBy.cell g HRB.out.2.1 (by simp)) (And.intro (World.grownBy.cell g HRB.out.2.2.1 (by simp)) (And.intro (World.grownBy.cell g HRB.out.2.2.2.1 (by simp)) (World.grownBy.cell g HRB.out.2.2.2.2 (by simp))))))
  replace HR := Lib.hid (HR.out.grown g)
  replace HG := Lib.hid (World.grownBy.trans HG.out g)
  clear g
  have HB5 := Lib.hid (And.intro hbx.2.1 hbx.2.2.1)
  clear hbx
  have qB50 := HB5.out.1
  have qB51 := HB5.out.2
  have qr0 := HRB.out.1
  have qr1 := HRB.out.2.1
  have qr2 := HRB.out.2.2.1
  have qr3 := HRB.out.2.2.2.1
  have qr4 := HRB.out.2.2.2.2
  go_wp2_with fail
  clear qB50 qB51 qr0 qr1 qr2 qr3 qr4
  refine (fromV (n := n) (k := 2) hn1 hn5 (by omega) HR.out.lB EL2.out ZB0.out ZL2.out _ _ _ HR.out.hB).mono ?_
  rintro e V4 ⟨xb, yb, rfl, hr, g⟩
  replace Ha := Lib.hid (Ha.out.grown g)
  replace HB5 := Lib.hid (And.intro (World.grownBy.cell g HB5.out.1 (by simp)) (World.grownBy.cell g HB5.out.2 (by simp)))
  replace HRB := Lib.hid (And.intro (World.grownBy.cell g HRB.out.1 (by simp)) (And.intro (World.grownBy.cell g HRB.out.2.1 (by simp)) (And.intro (World.grownBy.cell g HRB.out.2.2.1 (by simp)) (And.intro (World.grownBy.cell g HRB.out.2.2.2.1 (by simp)) (World.grownBy.cell g HRB.out.2.2.2.2 (by simp))))))
  replace HR := Lib.hid (HR.out.grown g)
  replace HG := Lib.hid (World.grownBy.trans HG.out g)
  clear g
  have Hb := Lib.hid hr
  clear hr
  have qB50 := HB5.out.1
  have qB51 := HB5.out.2
  have qr0 := HRB.out.1
  have qr1 := HRB.out.2.1
  have qr2 := HRB.out.2.2.1
  have qr3 := HRB.out.2.2.2.1
  have qr4 := HRB.out.2.2.2.2
  go_upto_region 5 with fail
  clear qB50 qB51 qr0 qr1 qr2 qr3 qr4
  have hbx := one_cells V4 (.int .i64 2) (.slice xb lL2 yb) 27
  have g := World.grownBy_alloc V4 (.cells #[.int .i64 2, .slice xb lL2 yb] 27) none
  obtain ⟨V5, hV5⟩ : ∃ z, World.alloc V4 (.cells #[.int .i64 2, .slice xb lL2 yb] 27) = z := ⟨_, rfl⟩
  rw [hV5] at g hbx ⊢
  clear hV5
  obtain ⟨bB6, hb⟩ : ∃ b, V4.heap.size = b := ⟨_, rfl⟩
  rw [hb] at hbx ⊢
  clear hb
  replace Ha := Lib.hid (Ha.out.grown g)
  replace Hb := Lib.hid (Hb.out.grown g)
  replace HB5 := Lib.hid (And.intro (World.grownBy.cell g HB5.out.1 (by simp)) (World.grownBy.cell g HB5.out.2 (by simp)))
  replace HRB := Lib.hid (And.intro (World.grownBy.cell g HRB.out.1 (by simp)) (And.intro (World.grownBy.cell g HRB.out.2.1 (by simp)) (And.intro (World.grownBy.cell g HRB.out.2.2.1 (by simp)) (And.intro (World.grownBy.cell g HRB.out.2.2.2.1 (by simp)) (World.grownBy.cell g HRB.out.2.2.2.2 (by simp))))))
  replace HR := Lib.hid (HR.out.grown g)
  replace HG := Lib.hid (World.grownBy.trans HG.out g)
  clear g
  have HB6 := Lib.hid (And.intro hbx.2.1 hbx.2.2.1)
  clear hbx
  clear HRB HR
  have qB50 := HB5.out.1
  have qB51 := HB5.out.2
  have qB60 := HB6.out.1
  have qB61 := HB6.out.2
  go_wp2_with fail
  clear qB50 qB51 qB60 qB61
  refine (closV vL1.out hn5 (by rw [← EL1.out]; exact EL3.out) ZL1.out ZL3.out _ _ _ Ha.out).mono ?_
  rintro e V6 ⟨xr1, yr1, rfl, hr, g⟩
  replace Ha := Lib.hid (Ha.out.grown g)
  replace Hb := Lib.hid (Hb.out.grown g)
  replace HB5 := Lib.hid (And.intro (World.grownBy.cell g HB5.out.1 (by simp)) (World.grownBy.cell g HB5.out.2 (by simp)))
  replace HB6 := Lib.hid (And.intro (World.grownBy.cell g HB6.out.1 (by simp)) (World.grownBy.cell g HB6.out.2 (by simp)))
  replace HG := Lib.hid (World.grownBy.trans HG.out g)
  clear g
  have Hr1 := Lib.hid hr
  clear hr
  have qB50 := HB5.out.1
  have qB51 := HB5.out.2
  have qB60 := HB6.out.1
  have qB61 := HB6.out.2
  go_upto_region 6 with fail
  clear qB50 qB51 qB60 qB61
  have hbx := one_cells V6 (.int .i64 2) (.slice xr1 lL3 yr1) 27
  have g := World.grownBy_alloc V6 (.cells #[.int .i64 2, .slice xr1 lL3 yr1] 27) none
  obtain ⟨V7, hV7⟩ : ∃ z, World.alloc V6 (.cells #[.int .i64 2, .slice xr1 lL3 yr1] 27) = z := ⟨_, rfl⟩
  rw [hV7] at g hbx ⊢
  clear hV7
  obtain ⟨bB7, hb⟩ : ∃ b, V6.heap.size = b := ⟨_, rfl⟩
  rw [hb] at hbx ⊢
  clear hb
  replace Ha := Lib.hid (Ha.out.grown g)
  replace Hb := Lib.hid (Hb.out.grown g)
  replace Hr1 := Lib.hid (Hr1.out.grown g)
  replace HB5 := Lib.hid (And.intro (World.grownBy.cell g HB5.out.1 (by simp)) (World.grownBy.cell g HB5.out.2 (by simp)))
  replace HB6 := Lib.hid (And.intro (World.grownBy.cell g HB6.out.1 (by simp)) (World.grownBy.cell g HB6.out.2 (by simp)))
  replace HG := Lib.hid (World.grownBy.trans HG.out g)
  clear g
  have HB7 := Lib.hid (And.intro hbx.2.1 hbx.2.2.1)
  clear hbx
  have qB50 := HB5.out.1
  have qB51 := HB5.out.2
  have qB60 := HB6.out.1
  have qB61 := HB6.out.2
  have qB70 := HB7.out.1
  have qB71 := HB7.out.2
  go_wp2_with fail
  clear qB50 qB51 qB60 qB61 qB70 qB71
  refine (joinV (k := 2) (j := 2) 2 (by omega) vL3.out vL3.out hn1 hn5 (by omega) (by omega) (by omega) (by omega) (by omega) (by omega) (by rw [← EL3.out]; exact EL4.out) ZL3.out ZL3.out ZL4.out _ _ _ _ _ Hr1.out Hr1.out).mono ?_
  rintro e V8 ⟨xr2, yr2, rfl, hr, g⟩
  replace Ha := Lib.hid (Ha.out.grown g)
  replace Hb := Lib.hid (Hb.out.grown g)
  replace Hr1 := Lib.hid (Hr1.out.grown g)
  replace HB5 := Lib.hid (And.intro (World.grownBy.cell g HB5.out.1 (by simp)) (World.grownBy.cell g HB5.out.2 (by simp)))
  replace HB6 := Lib.hid (And.intro (World.grownBy.cell g HB6.out.1 (by simp)) (World.grownBy.cell g HB6.out.2 (by simp)))
  replace HB7 := Lib.hid (And.intro (World.grownBy.cell g HB7.out.1 (by simp)) (World.grownBy.cell g HB7.out.2 (by simp)))
  replace HG := Lib.hid (World.grownBy.trans HG.out g)
  clear g
  have Hr2 := Lib.hid hr
  clear hr
  have qB50 := HB5.out.1
  have qB51 := HB5.out.2
  have qB60 := HB6.out.1
  have qB61 := HB6.out.2
  have qB70 := HB7.out.1
  have qB71 := HB7.out.2
  go_upto_region 7 with fail
  clear qB50 qB51 qB60 qB61 qB70 qB71
  have hbx := one_cells V8 (.int .i64 2) (.slice xr2 lL4 yr2) 27
  have g := World.grownBy_alloc V8 (.cells #[.int .i64 2, .slice xr2 lL4 yr2] 27) none
  obtain ⟨V9, hV9⟩ : ∃ z, World.alloc V8 (.cells #[.int .i64 2, .slice xr2 lL4 yr2] 27) = z := ⟨_, rfl⟩
  rw [hV9] at g hbx ⊢
  clear hV9
  obtain ⟨bB8, hb⟩ : ∃ b, V8.heap.size = b := ⟨_, rfl⟩
  rw [hb] at hbx ⊢
  clear hb
  replace Ha := Lib.hid (Ha.out.grown g)
  replace Hb := Lib.hid (Hb.out.grown g)
  replace Hr1 := Lib.hid (Hr1.out.grown g)
  replace Hr2 := Lib.hid (Hr2.out.grown g)
  replace HB5 := Lib.hid (And.intro (World.grownBy.cell g HB5.out.1 (by simp)) (World.grownBy.cell g HB5.out.2 (by simp)))
  replace HB6 := Lib.hid (And.intro (World.grownBy.cell g HB6.out.1 (by simp)) (World.grownBy.cell g HB6.out.2 (by simp)))
  replace HB7 := Lib.hid (And.intro (World.grownBy.cell g HB7.out.1 (by simp)) (World.grownBy.cell g HB7.out.2 (by simp)))
  replace HG := Lib.hid (World.grownBy.trans HG.out g)
  clear g
  have HB8 := Lib.hid (And.intro hbx.2.1 hbx.2.2.1)
  clear hbx
  have qB50 := HB5.out.1
  have qB51 := HB5.out.2
  have qB60 := HB6.out.1
  have qB61 := HB6.out.2
  have qB70 := HB7.out.1
  have qB71 := HB7.out.2
  have qB80 := HB8.out.1
  have qB81 := HB8.out.2
  go_wp2_with fail
  clear qB50 qB51 qB60 qB61 qB70 qB71 qB80 qB81
  refine (unionV (2 : Nat) (2 : Nat) vL1.out vL2.out hn5 (by omega) (by rw [← EL1.out, ← EL2.out]; exact EL5.out) ZL1.out ZL2.out ZL5.out _ _ _ _ _ Ha.out Hb.out).mono ?_
  rintro e V10 ⟨xr3, yr3, rfl, hr, g⟩
  replace Ha := Lib.hid (Ha.out.grown g)
  replace Hb := Lib.hid (Hb.out.grown g)
  replace Hr1 := Lib.hid (Hr1.out.grown g)
  replace Hr2 := Lib.hid (Hr2.out.grown g)
  replace HB5 := Lib.hid (And.intro (World.grownBy.cell g HB5.out.1 (by simp)) (World.grownBy.cell g HB5.out.2 (by simp)))
  replace HB6 := Lib.hid (And.intro (World.grownBy.cell g HB6.out.1 (by simp)) (World.grownBy.cell g HB6.out.2 (by simp)))
  replace HB7 := Lib.hid (And.intro (World.grownBy.cell g HB7.out.1 (by simp)) (World.grownBy.cell g HB7.out.2 (by simp)))
  replace HB8 := Lib.hid (And.intro (World.grownBy.cell g HB8.out.1 (by simp)) (World.grownBy.cell g HB8.out.2 (by simp)))
  replace HG := Lib.hid (World.grownBy.trans HG.out g)
  clear g
  have Hr3 := Lib.hid hr
  clear hr
  have qB50 := HB5.out.1
  have qB51 := HB5.out.2
  have qB60 := HB6.out.1
  have qB61 := HB6.out.2
  have qB70 := HB7.out.1
  have qB71 := HB7.out.2
  have qB80 := HB8.out.1
  have qB81 := HB8.out.2
  go_wp2_with fail
  clear qB50 qB51 qB60 qB61 qB70 qB71 qB80 qB81
  refine (closV vL5.out hn5 (by rw [← EL5.out]; exact EL6.out) ZL5.out ZL6.out _ _ _ Hr3.out).mono ?_
  rintro e V11 ⟨xr4, yr4, rfl, hr, g⟩
  replace Ha := Lib.hid (Ha.out.grown g)
  replace Hb := Lib.hid (Hb.out.grown g)
  replace Hr1 := Lib.hid (Hr1.out.grown g)
  replace Hr2 := Lib.hid (Hr2.out.grown g)
  replace Hr3 := Lib.hid (Hr3.out.grown g)
  replace HB5 := Lib.hid (And.intro (World.grownBy.cell g HB5.out.1 (by simp)) (World.grownBy.cell g HB5.out.2 (by simp)))
  replace HB6 := Lib.hid (And.intro (World.grownBy.cell g HB6.out.1 (by simp)) (World.grownBy.cell g HB6.out.2 (by simp)))
  replace HB7 := Lib.hid (And.intro (World.grownBy.cell g HB7.out.1 (by simp)) (World.grownBy.cell g HB7.out.2 (by simp)))
  replace HB8 := Lib.hid (And.intro (World.grownBy.cell g HB8.out.1 (by simp)) (World.grownBy.cell g HB8.out.2 (by simp)))
  replace HG := Lib.hid (World.grownBy.trans HG.out g)
  clear g
  have Hr4 := Lib.hid hr
  clear hr
  have qB50 := HB5.out.1
  have qB51 := HB5.out.2
  have qB60 := HB6.out.1
  have qB61 := HB6.out.2
  have qB70 := HB7.out.1
  have qB71 := HB7.out.2
  have qB80 := HB8.out.1
  have qB81 := HB8.out.2
  go_upto_region 8 with fail
  clear qB50 qB51 qB60 qB61 qB70 qB71 qB80 qB81
  have hbx := one_cells V11 (.int .i64 2) (.slice xr4 lL6 yr4) 27
  have g := World.grownBy_alloc V11 (.cells #[.int .i64 2, .slice xr4 lL6 yr4] 27) none
  obtain ⟨V12, hV12⟩ : ∃ z, World.alloc V11 (.cells #[.int .i64 2, .slice xr4 lL6 yr4] 27) = z := ⟨_, rfl⟩
  rw [hV12] at g hbx ⊢
  clear hV12
  obtain ⟨bB10, hb⟩ : ∃ b, V11.heap.size = b := ⟨_, rfl⟩
  rw [hb] at hbx ⊢
  clear hb
  replace Ha := Lib.hid (Ha.out.grown g)
  replace Hb := Lib.hid (Hb.out.grown g)
  replace Hr1 := Lib.hid (Hr1.out.grown g)
  replace Hr2 := Lib.hid (Hr2.out.grown g)
  replace Hr3 := Lib.hid (Hr3.out.grown g)
  replace Hr4 := Lib.hid (Hr4.out.grown g)
  replace HB5 := Lib.hid (And.intro (World.grownBy.cell g HB5.out.1 (by simp)) (World.grownBy.cell g HB5.out.2 (by simp)))
  replace HB6 := Lib.hid (And.intro (World.grownBy.cell g HB6.out.1 (by simp)) (World.grownBy.cell g HB6.out.2 (by simp)))
  replace HB7 := Lib.hid (And.intro (World.grownBy.cell g HB7.out.1 (by simp)) (World.grownBy.cell g HB7.out.2 (by simp)))
  replace HB8 := Lib.hid (And.intro (World.grownBy.cell g HB8.out.1 (by simp)) (World.grownBy.cell g HB8.out.2 (by simp)))
  replace HG := Lib.hid (World.grownBy.trans HG.out g)
  clear g
  have HB10 := Lib.hid (And.intro hbx.2.1 hbx.2.2.1)
  clear hbx
  have qB50 := HB5.out.1
  have qB51 := HB5.out.2
  have qB60 := HB6.out.1
  have qB61 := HB6.out.2
  have qB70 := HB7.out.1
  have qB71 := HB7.out.2
  have qB80 := HB8.out.1
  have qB81 := HB8.out.2
  have qB100 := HB10.out.1
  have qB101 := HB10.out.2
  go_wp2_with fail
  clear qB50 qB51 qB60 qB61 qB70 qB71 qB80 qB81 qB100 qB101
  refine (unionV (2 : Nat) (2 : Nat) vL1.out vL2.out hn5 (by omega) (by rw [← EL1.out, ← EL2.out]; exact EL5.out) ZL1.out ZL2.out ZL5.out _ _ _ _ _ Ha.out Hb.out).mono ?_
  rintro e V13 ⟨xr5, yr5, rfl, hr, g⟩
  replace Ha := Lib.hid (Ha.out.grown g)
  replace Hb := Lib.hid (Hb.out.grown g)
  replace Hr1 := Lib.hid (Hr1.out.grown g)
  replace Hr2 := Lib.hid (Hr2.out.grown g)
  replace Hr3 := Lib.hid (Hr3.out.grown g)
  replace Hr4 := Lib.hid (Hr4.out.grown g)
  replace HB5 := Lib.hid (And.intro (World.grownBy.cell g HB5.out.1 (by simp)) (World.grownBy.cell g HB5.out.2 (by simp)))
  replace HB6 := Lib.hid (And.intro (World.grownBy.cell g HB6.out.1 (by simp)) (World.grownBy.cell g HB6.out.2 (by simp)))
  replace HB7 := Lib.hid (And.intro (World.grownBy.cell g HB7.out.1 (by simp)) (World.grownBy.cell g HB7.out.2 (by simp)))
  replace HB8 := Lib.hid (And.intro (World.grownBy.cell g HB8.out.1 (by simp)) (World.grownBy.cell g HB8.out.2 (by simp)))
  replace HB10 := Lib.hid (And.intro (World.grownBy.cell g HB10.out.1 (by simp)) (World.grownBy.cell g HB10.out.2 (by simp)))
  replace HG := Lib.hid (World.grownBy.trans HG.out g)
  clear g
  have Hr5 := Lib.hid hr
  clear hr
  have qB50 := HB5.out.1
  have qB51 := HB5.out.2
  have qB60 := HB6.out.1
  have qB61 := HB6.out.2
  have qB70 := HB7.out.1
  have qB71 := HB7.out.2
  have qB80 := HB8.out.1
  have qB81 := HB8.out.2
  have qB100 := HB10.out.1
  have qB101 := HB10.out.2
  go_upto_region 9 with fail
  clear qB50 qB51 qB60 qB61 qB70 qB71 qB80 qB81 qB100 qB101
  have hbx := one_cells V13 (.int .i64 2) (.slice xr5 lL5 yr5) 27
  have g := World.grownBy_alloc V13 (.cells #[.int .i64 2, .slice xr5 lL5 yr5] 27) none
  obtain ⟨V14, hV14⟩ : ∃ z, World.alloc V13 (.cells #[.int .i64 2, .slice xr5 lL5 yr5] 27) = z := ⟨_, rfl⟩
  rw [hV14] at g hbx ⊢
  clear hV14
  obtain ⟨bB11, hb⟩ : ∃ b, V13.heap.size = b := ⟨_, rfl⟩
  rw [hb] at hbx ⊢
  clear hb
  replace Ha := Lib.hid (Ha.out.grown g)
  replace Hb := Lib.hid (Hb.out.grown g)
  replace Hr1 := Lib.hid (Hr1.out.grown g)
  replace Hr2 := Lib.hid (Hr2.out.grown g)
  replace Hr3 := Lib.hid (Hr3.out.grown g)
  replace Hr4 := Lib.hid (Hr4.out.grown g)
  replace Hr5 := Lib.hid (Hr5.out.grown g)
  replace HB5 := Lib.hid (And.intro (World.grownBy.cell g HB5.out.1 (by simp)) (World.grownBy.cell g HB5.out.2 (by simp)))
  replace HB6 := Lib.hid (And.intro (World.grownBy.cell g HB6.out.1 (by simp)) (World.grownBy.cell g HB6.out.2 (by simp)))
  replace HB7 := Lib.hid (And.intro (World.grownBy.cell g HB7.out.1 (by simp)) (World.grownBy.cell g HB7.out.2 (by simp)))
  replace HB8 := Lib.hid (And.intro (World.grownBy.cell g HB8.out.1 (by simp)) (World.grownBy.cell g HB8.out.2 (by simp)))
  replace HB10 := Lib.hid (And.intro (World.grownBy.cell g HB10.out.1 (by simp)) (World.grownBy.cell g HB10.out.2 (by simp)))
  replace HG := Lib.hid (World.grownBy.trans HG.out g)
  clear g
  have HB11 := Lib.hid (And.intro hbx.2.1 hbx.2.2.1)
  clear hbx
  have qB50 := HB5.out.1
  have qB51 := HB5.out.2
  have qB60 := HB6.out.1
  have qB61 := HB6.out.2
  have qB70 := HB7.out.1
  have qB71 := HB7.out.2
  have qB80 := HB8.out.1
  have qB81 := HB8.out.2
  have qB100 := HB10.out.1
  have qB101 := HB10.out.2
  have qB110 := HB11.out.1
  have qB111 := HB11.out.2
  go_wp2_with fail
  clear qB50 qB51 qB60 qB61 qB70 qB71 qB80 qB81 qB100 qB101 qB110 qB111
  refine (joinV (k := 2) (j := 2) 2 (by omega) vL5.out vL5.out hn1 hn5 (by omega) (by omega) (by omega) (by omega) (by omega) (by omega) (by rw [← EL5.out]; exact EL7.out) ZL5.out ZL5.out ZL7.out _ _ _ _ _ Hr5.out Hr5.out).mono ?_
  rintro e V15 ⟨xr6, yr6, rfl, hr, g⟩
  replace Ha := Lib.hid (Ha.out.grown g)
  replace Hb := Lib.hid (Hb.out.grown g)
  replace Hr1 := Lib.hid (Hr1.out.grown g)
  replace Hr2 := Lib.hid (Hr2.out.grown g)
  replace Hr3 := Lib.hid (Hr3.out.grown g)
  replace Hr4 := Lib.hid (Hr4.out.grown g)
  replace Hr5 := Lib.hid (Hr5.out.grown g)
  replace HB5 := Lib.hid (And.intro (World.grownBy.cell g HB5.out.1 (by simp)) (World.grownBy.cell g HB5.out.2 (by simp)))
  replace HB6 := Lib.hid (And.intro (World.grownBy.cell g HB6.out.1 (by simp)) (World.grownBy.cell g HB6.out.2 (by simp)))
  replace HB7 := Lib.hid (And.intro (World.grownBy.cell g HB7.out.1 (by simp)) (World.grownBy.cell g HB7.out.2 (by simp)))
  replace HB8 := Lib.hid (And.intro (World.grownBy.cell g HB8.out.1 (by simp)) (World.grownBy.cell g HB8.out.2 (by simp)))
  replace HB10 := Lib.hid (And.intro (World.grownBy.cell g HB10.out.1 (by simp)) (World.grownBy.cell g HB10.out.2 (by simp)))
  replace HB11 := Lib.hid (And.intro (World.grownBy.cell g HB11.out.1 (by simp)) (World.grownBy.cell g HB11.out.2 (by simp)))
  replace HG := Lib.hid (World.grownBy.trans HG.out g)
  clear g
  have Hr6 := Lib.hid hr
  clear hr
  have qB50 := HB5.out.1
  have qB51 := HB5.out.2
  have qB60 := HB6.out.1
  have qB61 := HB6.out.2
  have qB70 := HB7.out.1
  have qB71 := HB7.out.2
  have qB80 := HB8.out.1
  have qB81 := HB8.out.2
  have qB100 := HB10.out.1
  have qB101 := HB10.out.2
  have qB110 := HB11.out.1
  have qB111 := HB11.out.2
  go_upto_region 10 with fail
  clear qB50 qB51 qB60 qB61 qB70 qB71 qB80 qB81 qB100 qB101 qB110 qB111
  have hbx := one_cells V15 (.int .i64 2) (.slice xr6 lL7 yr6) 27
  have g := World.grownBy_alloc V15 (.cells #[.int .i64 2, .slice xr6 lL7 yr6] 27) none
  obtain ⟨V16, hV16⟩ : ∃ z, World.alloc V15 (.cells #[.int .i64 2, .slice xr6 lL7 yr6] 27) = z := ⟨_, rfl⟩
  rw [hV16] at g hbx ⊢
  clear hV16
  obtain ⟨bB12, hb⟩ : ∃ b, V15.heap.size = b := ⟨_, rfl⟩
  rw [hb] at hbx ⊢
  clear hb
  replace Ha := Lib.hid (Ha.out.grown g)
  replace Hb := Lib.hid (Hb.out.grown g)
  replace Hr1 := Lib.hid (Hr1.out.grown g)
  replace Hr2 := Lib.hid (Hr2.out.grown g)
  replace Hr3 := Lib.hid (Hr3.out.grown g)
  replace Hr4 := Lib.hid (Hr4.out.grown g)
  replace Hr5 := Lib.hid (Hr5.out.grown g)
  replace Hr6 := Lib.hid (Hr6.out.grown g)
  replace HB5 := Lib.hid (And.intro (World.grownBy.cell g HB5.out.1 (by simp)) (World.grownBy.cell g HB5.out.2 (by simp)))
  replace HB6 := Lib.hid (And.intro (World.grownBy.cell g HB6.out.1 (by simp)) (World.grownBy.cell g HB6.out.2 (by simp)))
  replace HB7 := Lib.hid (And.intro (World.grownBy.cell g HB7.out.1 (by simp)) (World.grownBy.cell g HB7.out.2 (by simp)))
  replace HB8 := Lib.hid (And.intro (World.grownBy.cell g HB8.out.1 (by simp)) (World.grownBy.cell g HB8.out.2 (by simp)))
  replace HB10 := Lib.hid (And.intro (World.grownBy.cell g HB10.out.1 (by simp)) (World.grownBy.cell g HB10.out.2 (by simp)))
  replace HB11 := Lib.hid (And.intro (World.grownBy.cell g HB11.out.1 (by simp)) (World.grownBy.cell g HB11.out.2 (by simp)))
  replace HG := Lib.hid (World.grownBy.trans HG.out g)
  clear g
  have HB12 := Lib.hid (And.intro hbx.2.1 hbx.2.2.1)
  clear hbx
  have qB50 := HB5.out.1
  have qB51 := HB5.out.2
  have qB60 := HB6.out.1
  have qB61 := HB6.out.2
  have qB70 := HB7.out.1
  have qB71 := HB7.out.2
  have qB80 := HB8.out.1
  have qB81 := HB8.out.2
  have qB100 := HB10.out.1
  have qB101 := HB10.out.2
  have qB110 := HB11.out.1
  have qB111 := HB11.out.2
  have qB120 := HB12.out.1
  have qB121 := HB12.out.2
  go_wp2_with fail
  clear qB50 qB51 qB60 qB61 qB70 qB71 qB80 qB81 qB100 qB101 qB110 qB111 qB120 qB121
  refine (inV (k := 2) (Q := true) (2 : Nat) (2 : Nat) vL1.out vL3.out hn5 (by omega) (decide_eq_true Q7.out) ZL1.out ZL3.out _ _ _ _ _ Ha.out Hr1.out).mono ?_
  rintro e V17 ⟨rfl, g⟩
  replace Ha := Lib.hid (Ha.out.grown g)
  replace Hb := Lib.hid (Hb.out.grown g)
  replace Hr1 := Lib.hid (Hr1.out.grown g)
  replace Hr2 := Lib.hid (Hr2.out.grown g)
  replace Hr3 := Lib.hid (Hr3.out.grown g)
  replace Hr4 := Lib.hid (Hr4.out.grown g)
  replace Hr5 := Lib.hid (Hr5.out.grown g)
  replace Hr6 := Lib.hid (Hr6.out.grown g)
  replace HB5 := Lib.hid (And.intro (World.grownBy.cell g HB5.out.1 (by simp)) (World.grownBy.cell g HB5.out.2 (by simp)))
  replace HB6 := Lib.hid (And.intro (World.grownBy.cell g HB6.out.1 (by simp)) (World.grownBy.cell g HB6.out.2 (by simp)))
  replace HB7 := Lib.hid (And.intro (World.grownBy.cell g HB7.out.1 (by simp)) (World.grownBy.cell g HB7.out.2 (by simp)))
  replace HB8 := Lib.hid (And.intro (World.grownBy.cell g HB8.out.1 (by simp)) (World.grownBy.cell g HB8.out.2 (by simp)))
  replace HB10 := Lib.hid (And.intro (World.grownBy.cell g HB10.out.1 (by simp)) (World.grownBy.cell g HB10.out.2 (by simp)))
  replace HB11 := Lib.hid (And.intro (World.grownBy.cell g HB11.out.1 (by simp)) (World.grownBy.cell g HB11.out.2 (by simp)))
  replace HB12 := Lib.hid (And.intro (World.grownBy.cell g HB12.out.1 (by simp)) (World.grownBy.cell g HB12.out.2 (by simp)))
  replace HG := Lib.hid (World.grownBy.trans HG.out g)
  clear g
  have qB50 := HB5.out.1
  have qB51 := HB5.out.2
  have qB60 := HB6.out.1
  have qB61 := HB6.out.2
  have qB70 := HB7.out.1
  have qB71 := HB7.out.2
  have qB80 := HB8.out.1
  have qB81 := HB8.out.2
  have qB100 := HB10.out.1
  have qB101 := HB10.out.2
  have qB110 := HB11.out.1
  have qB111 := HB11.out.2
  have qB120 := HB12.out.1
  have qB121 := HB12.out.2
  go_wp2_with fail
  clear qB50 qB51 qB60 qB61 qB70 qB71 qB80 qB81 qB100 qB101 qB110 qB111 qB120 qB121
  refine (inV (k := 2) (Q := true) (2 : Nat) (2 : Nat) vL4.out vL3.out hn5 (by omega) (decide_eq_true Q8.out) ZL4.out ZL3.out _ _ _ _ _ Hr2.out Hr1.out).mono ?_
  rintro e V18 ⟨rfl, g⟩
  replace Ha := Lib.hid (Ha.out.grown g)
  replace Hb := Lib.hid (Hb.out.grown g)
  replace Hr1 := Lib.hid (Hr1.out.grown g)
  replace Hr2 := Lib.hid (Hr2.out.grown g)
  replace Hr3 := Lib.hid (Hr3.out.grown g)
  replace Hr4 := Lib.hid (Hr4.out.grown g)
  replace Hr5 := Lib.hid (Hr5.out.grown g)
  replace Hr6 := Lib.hid (Hr6.out.grown g)
  replace HB5 := Lib.hid (And.intro (World.grownBy.cell g HB5.out.1 (by simp)) (World.grownBy.cell g HB5.out.2 (by simp)))
  replace HB6 := Lib.hid (And.intro (World.grownBy.cell g HB6.out.1 (by simp)) (World.grownBy.cell g HB6.out.2 (by simp)))
  replace HB7 := Lib.hid (And.intro (World.grownBy.cell g HB7.out.1 (by simp)) (World.grownBy.cell g HB7.out.2 (by simp)))
  replace HB8 := Lib.hid (And.intro (World.grownBy.cell g HB8.out.1 (by simp)) (World.grownBy.cell g HB8.out.2 (by simp)))
  replace HB10 := Lib.hid (And.intro (World.grownBy.cell g HB10.out.1 (by simp)) (World.grownBy.cell g HB10.out.2 (by simp)))
  replace HB11 := Lib.hid (And.intro (World.grownBy.cell g HB11.out.1 (by simp)) (World.grownBy.cell g HB11.out.2 (by simp)))
  replace HB12 := Lib.hid (And.intro (World.grownBy.cell g HB12.out.1 (by simp)) (World.grownBy.cell g HB12.out.2 (by simp)))
  replace HG := Lib.hid (World.grownBy.trans HG.out g)
  clear g
  have qB50 := HB5.out.1
  have qB51 := HB5.out.2
  have qB60 := HB6.out.1
  have qB61 := HB6.out.2
  have qB70 := HB7.out.1
  have qB71 := HB7.out.2
  have qB80 := HB8.out.1
  have qB81 := HB8.out.2
  have qB100 := HB10.out.1
  have qB101 := HB10.out.2
  have qB110 := HB11.out.1
  have qB111 := HB11.out.2
  have qB120 := HB12.out.1
  have qB121 := HB12.out.2
  go_wp2_with fail
  clear qB50 qB51 qB60 qB61 qB70 qB71 qB80 qB81 qB100 qB101 qB110 qB111 qB120 qB121
  refine (inV (k := 2) (Q := true) (2 : Nat) (2 : Nat) vL3.out vL6.out hn5 (by omega) (decide_eq_true Q9.out) ZL3.out ZL6.out _ _ _ _ _ Hr1.out Hr4.out).mono ?_
  rintro e V19 ⟨rfl, g⟩
  replace Ha := Lib.hid (Ha.out.grown g)
  replace Hb := Lib.hid (Hb.out.grown g)
  replace Hr1 := Lib.hid (Hr1.out.grown g)
  replace Hr2 := Lib.hid (Hr2.out.grown g)
  replace Hr3 := Lib.hid (Hr3.out.grown g)
  replace Hr4 := Lib.hid (Hr4.out.grown g)
  replace Hr5 := Lib.hid (Hr5.out.grown g)
  replace Hr6 := Lib.hid (Hr6.out.grown g)
  replace HB5 := Lib.hid (And.intro (World.grownBy.cell g HB5.out.1 (by simp)) (World.grownBy.cell g HB5.out.2 (by simp)))
  replace HB6 := Lib.hid (And.intro (World.grownBy.cell g HB6.out.1 (by simp)) (World.grownBy.cell g HB6.out.2 (by simp)))
  replace HB7 := Lib.hid (And.intro (World.grownBy.cell g HB7.out.1 (by simp)) (World.grownBy.cell g HB7.out.2 (by simp)))
  replace HB8 := Lib.hid (And.intro (World.grownBy.cell g HB8.out.1 (by simp)) (World.grownBy.cell g HB8.out.2 (by simp)))
  replace HB10 := Lib.hid (And.intro (World.grownBy.cell g HB10.out.1 (by simp)) (World.grownBy.cell g HB10.out.2 (by simp)))
  replace HB11 := Lib.hid (And.intro (World.grownBy.cell g HB11.out.1 (by simp)) (World.grownBy.cell g HB11.out.2 (by simp)))
  replace HB12 := Lib.hid (And.intro (World.grownBy.cell g HB12.out.1 (by simp)) (World.grownBy.cell g HB12.out.2 (by simp)))
  replace HG := Lib.hid (World.grownBy.trans HG.out g)
  clear g
  have qB50 := HB5.out.1
  have qB51 := HB5.out.2
  have qB60 := HB6.out.1
  have qB61 := HB6.out.2
  have qB70 := HB7.out.1
  have qB71 := HB7.out.2
  have qB80 := HB8.out.1
  have qB81 := HB8.out.2
  have qB100 := HB10.out.1
  have qB101 := HB10.out.2
  have qB110 := HB11.out.1
  have qB111 := HB11.out.2
  have qB120 := HB12.out.1
  have qB121 := HB12.out.2
  go_upto_region 12 with fail
  clear qB50 qB51 qB60 qB61 qB70 qB71 qB80 qB81 qB100 qB101 qB110 qB111 qB120 qB121
  have qB50 := HB5.out.1
  have qB51 := HB5.out.2
  have qB60 := HB6.out.1
  have qB61 := HB6.out.2
  have qB70 := HB7.out.1
  have qB71 := HB7.out.2
  have qB80 := HB8.out.1
  have qB81 := HB8.out.2
  have qB100 := HB10.out.1
  have qB101 := HB10.out.2
  have qB110 := HB11.out.1
  have qB111 := HB11.out.2
  have qB120 := HB12.out.1
  have qB121 := HB12.out.2
  go_wp2_with fail
  clear qB50 qB51 qB60 qB61 qB70 qB71 qB80 qB81 qB100 qB101 qB110 qB111 qB120 qB121
  refine (inV (k := 2) (Q := true) (2 : Nat) (2 : Nat) vL7.out vL5.out hn5 (by omega) (decide_eq_true Q10.out) ZL7.out ZL5.out _ _ _ _ _ Hr6.out Hr5.out).mono ?_
  rintro e V20 ⟨rfl, g⟩
  replace Ha := Lib.hid (Ha.out.grown g)
  replace Hb := Lib.hid (Hb.out.grown g)
  replace Hr1 := Lib.hid (Hr1.out.grown g)
  replace Hr2 := Lib.hid (Hr2.out.grown g)
  replace Hr3 := Lib.hid (Hr3.out.grown g)
  replace Hr4 := Lib.hid (Hr4.out.grown g)
  replace Hr5 := Lib.hid (Hr5.out.grown g)
  replace Hr6 := Lib.hid (Hr6.out.grown g)
  replace HB5 := Lib.hid (And.intro (World.grownBy.cell g HB5.out.1 (by simp)) (World.grownBy.cell g HB5.out.2 (by simp)))
  replace HB6 := Lib.hid (And.intro (World.grownBy.cell g HB6.out.1 (by simp)) (World.grownBy.cell g HB6.out.2 (by simp)))
  replace HB7 := Lib.hid (And.intro (World.grownBy.cell g HB7.out.1 (by simp)) (World.grownBy.cell g HB7.out.2 (by simp)))
  replace HB8 := Lib.hid (And.intro (World.grownBy.cell g HB8.out.1 (by simp)) (World.grownBy.cell g HB8.out.2 (by simp)))
  replace HB10 := Lib.hid (And.intro (World.grownBy.cell g HB10.out.1 (by simp)) (World.grownBy.cell g HB10.out.2 (by simp)))
  replace HB11 := Lib.hid (And.intro (World.grownBy.cell g HB11.out.1 (by simp)) (World.grownBy.cell g HB11.out.2 (by simp)))
  replace HB12 := Lib.hid (And.intro (World.grownBy.cell g HB12.out.1 (by simp)) (World.grownBy.cell g HB12.out.2 (by simp)))
  replace HG := Lib.hid (World.grownBy.trans HG.out g)
  clear g
  have qB50 := HB5.out.1
  have qB51 := HB5.out.2
  have qB60 := HB6.out.1
  have qB61 := HB6.out.2
  have qB70 := HB7.out.1
  have qB71 := HB7.out.2
  have qB80 := HB8.out.1
  have qB81 := HB8.out.2
  have qB100 := HB10.out.1
  have qB101 := HB10.out.2
  have qB110 := HB11.out.1
  have qB111 := HB11.out.2
  have qB120 := HB12.out.1
  have qB121 := HB12.out.2
  go_wp2_with fail
  clear qB50 qB51 qB60 qB61 qB70 qB71 qB80 qB81 qB100 qB101 qB110 qB111 qB120 qB121
  refine (inV (k := 2) (Q := true) (2 : Nat) (2 : Nat) vL3.out vL5.out hn5 (by omega) (decide_eq_true Q11.out) ZL3.out ZL5.out _ _ _ _ _ Hr1.out Hr5.out).mono ?_
  rintro e V21 ⟨rfl, g⟩
  replace Ha := Lib.hid (Ha.out.grown g)
  replace Hb := Lib.hid (Hb.out.grown g)
  replace Hr1 := Lib.hid (Hr1.out.grown g)
  replace Hr2 := Lib.hid (Hr2.out.grown g)
  replace Hr3 := Lib.hid (Hr3.out.grown g)
  replace Hr4 := Lib.hid (Hr4.out.grown g)
  replace Hr5 := Lib.hid (Hr5.out.grown g)
  replace Hr6 := Lib.hid (Hr6.out.grown g)
  replace HB5 := Lib.hid (And.intro (World.grownBy.cell g HB5.out.1 (by simp)) (World.grownBy.cell g HB5.out.2 (by simp)))
  replace HB6 := Lib.hid (And.intro (World.grownBy.cell g HB6.out.1 (by simp)) (World.grownBy.cell g HB6.out.2 (by simp)))
  replace HB7 := Lib.hid (And.intro (World.grownBy.cell g HB7.out.1 (by simp)) (World.grownBy.cell g HB7.out.2 (by simp)))
  replace HB8 := Lib.hid (And.intro (World.grownBy.cell g HB8.out.1 (by simp)) (World.grownBy.cell g HB8.out.2 (by simp)))
  replace HB10 := Lib.hid (And.intro (World.grownBy.cell g HB10.out.1 (by simp)) (World.grownBy.cell g HB10.out.2 (by simp)))
  replace HB11 := Lib.hid (And.intro (World.grownBy.cell g HB11.out.1 (by simp)) (World.grownBy.cell g HB11.out.2 (by simp)))
  replace HB12 := Lib.hid (And.intro (World.grownBy.cell g HB12.out.1 (by simp)) (World.grownBy.cell g HB12.out.2 (by simp)))
  replace HG := Lib.hid (World.grownBy.trans HG.out g)
  clear g
  have qB50 := HB5.out.1
  have qB51 := HB5.out.2
  have qB60 := HB6.out.1
  have qB61 := HB6.out.2
  have qB70 := HB7.out.1
  have qB71 := HB7.out.2
  have qB80 := HB8.out.1
  have qB81 := HB8.out.2
  have qB100 := HB10.out.1
  have qB101 := HB10.out.2
  have qB110 := HB11.out.1
  have qB111 := HB11.out.2
  have qB120 := HB12.out.1
  have qB121 := HB12.out.2
  go_upto_region 14 with fail
  clear qB50 qB51 qB60 qB61 qB70 qB71 qB80 qB81 qB100 qB101 qB110 qB111 qB120 qB121
  have qB50 := HB5.out.1
  have qB51 := HB5.out.2
  have qB60 := HB6.out.1
  have qB61 := HB6.out.2
  have qB70 := HB7.out.1
  have qB71 := HB7.out.2
  have qB80 := HB8.out.1
  have qB81 := HB8.out.2
  have qB100 := HB10.out.1
  have qB101 := HB10.out.2
  have qB110 := HB11.out.1
  have qB111 := HB11.out.2
  have qB120 := HB12.out.1
  have qB121 := HB12.out.2
  go_wp2_with fail
  clear qB50 qB51 qB60 qB61 qB70 qB71 qB80 qB81 qB100 qB101 qB110 qB111 qB120 qB121
  refine (joinV (k := 2) (j := 2) 2 (by omega) vL1.out vL3.out hn1 hn5 (by omega) (by omega) (by omega) (by omega) (by omega) (by omega) (by rw [← EL1.out, ← EL3.out]; exact EL8.out) ZL1.out ZL3.out ZL8.out _ _ _ _ _ Ha.out Hr1.out).mono ?_
  rintro e V22 ⟨xr12, yr12, rfl, hr, g⟩
  replace Ha := Lib.hid (Ha.out.grown g)
  replace Hb := Lib.hid (Hb.out.grown g)
  replace Hr1 := Lib.hid (Hr1.out.grown g)
  replace Hr2 := Lib.hid (Hr2.out.grown g)
  replace Hr3 := Lib.hid (Hr3.out.grown g)
  replace Hr4 := Lib.hid (Hr4.out.grown g)
  replace Hr5 := Lib.hid (Hr5.out.grown g)
  replace Hr6 := Lib.hid (Hr6.out.grown g)
  replace HB5 := Lib.hid (And.intro (World.grownBy.cell g HB5.out.1 (by simp)) (World.grownBy.cell g HB5.out.2 (by simp)))
  replace HB6 := Lib.hid (And.intro (World.grownBy.cell g HB6.out.1 (by simp)) (World.grownBy.cell g HB6.out.2 (by simp)))
  replace HB7 := Lib.hid (And.intro (World.grownBy.cell g HB7.out.1 (by simp)) (World.grownBy.cell g HB7.out.2 (by simp)))
  replace HB8 := Lib.hid (And.intro (World.grownBy.cell g HB8.out.1 (by simp)) (World.grownBy.cell g HB8.out.2 (by simp)))
  replace HB10 := Lib.hid (And.intro (World.grownBy.cell g HB10.out.1 (by simp)) (World.grownBy.cell g HB10.out.2 (by simp)))
  replace HB11 := Lib.hid (And.intro (World.grownBy.cell g HB11.out.1 (by simp)) (World.grownBy.cell g HB11.out.2 (by simp)))
  replace HB12 := Lib.hid (And.intro (World.grownBy.cell g HB12.out.1 (by simp)) (World.grownBy.cell g HB12.out.2 (by simp)))
  replace HG := Lib.hid (World.grownBy.trans HG.out g)
  clear g
  have Hr12 := Lib.hid hr
  clear hr
  have qB50 := HB5.out.1
  have qB51 := HB5.out.2
  have qB60 := HB6.out.1
  have qB61 := HB6.out.2
  have qB70 := HB7.out.1
  have qB71 := HB7.out.2
  have qB80 := HB8.out.1
  have qB81 := HB8.out.2
  have qB100 := HB10.out.1
  have qB101 := HB10.out.2
  have qB110 := HB11.out.1
  have qB111 := HB11.out.2
  have qB120 := HB12.out.1
  have qB121 := HB12.out.2
  go_upto_region 15 with fail
  clear qB50 qB51 qB60 qB61 qB70 qB71 qB80 qB81 qB100 qB101 qB110 qB111 qB120 qB121
  have hbx := one_cells V22 (.int .i64 2) (.slice xr12 lL8 yr12) 27
  have g := World.grownBy_alloc V22 (.cells #[.int .i64 2, .slice xr12 lL8 yr12] 27) none
  obtain ⟨V23, hV23⟩ : ∃ z, World.alloc V22 (.cells #[.int .i64 2, .slice xr12 lL8 yr12] 27) = z := ⟨_, rfl⟩
  rw [hV23] at g hbx ⊢
  clear hV23
  obtain ⟨bB14, hb⟩ : ∃ b, V22.heap.size = b := ⟨_, rfl⟩
  rw [hb] at hbx ⊢
  clear hb
  replace Ha := Lib.hid (Ha.out.grown g)
  replace Hb := Lib.hid (Hb.out.grown g)
  replace Hr1 := Lib.hid (Hr1.out.grown g)
  replace Hr2 := Lib.hid (Hr2.out.grown g)
  replace Hr3 := Lib.hid (Hr3.out.grown g)
  replace Hr4 := Lib.hid (Hr4.out.grown g)
  replace Hr5 := Lib.hid (Hr5.out.grown g)
  replace Hr6 := Lib.hid (Hr6.out.grown g)
  replace Hr12 := Lib.hid (Hr12.out.grown g)
  replace HB5 := Lib.hid (And.intro (World.grownBy.cell g HB5.out.1 (by simp)) (World.grownBy.cell g HB5.out.2 (by simp)))
  replace HB6 := Lib.hid (And.intro (World.grownBy.cell g HB6.out.1 (by simp)) (World.grownBy.cell g HB6.out.2 (by simp)))
  replace HB7 := Lib.hid (And.intro (World.grownBy.cell g HB7.out.1 (by simp)) (World.grownBy.cell g HB7.out.2 (by simp)))
  replace HB8 := Lib.hid (And.intro (World.grownBy.cell g HB8.out.1 (by simp)) (World.grownBy.cell g HB8.out.2 (by simp)))
  replace HB10 := Lib.hid (And.intro (World.grownBy.cell g HB10.out.1 (by simp)) (World.grownBy.cell g HB10.out.2 (by simp)))
  replace HB11 := Lib.hid (And.intro (World.grownBy.cell g HB11.out.1 (by simp)) (World.grownBy.cell g HB11.out.2 (by simp)))
  replace HB12 := Lib.hid (And.intro (World.grownBy.cell g HB12.out.1 (by simp)) (World.grownBy.cell g HB12.out.2 (by simp)))
  replace HG := Lib.hid (World.grownBy.trans HG.out g)
  clear g
  have HB14 := Lib.hid (And.intro hbx.2.1 hbx.2.2.1)
  clear hbx
  have HS := Lib.hid (fun (Wh : World) (hWh : V23.grownBy Wh none) => (⟨hWh, hWh.cell HB5.out.1 (by simp), hWh.cell HB5.out.2 (by simp), hWh.cell HB6.out.1 (by simp), hWh.cell HB6.out.2 (by simp), hWh.cell HB7.out.1 (by simp), hWh.cell HB7.out.2 (by simp), hWh.cell HB8.out.1 (by simp), hWh.cell HB8.out.2 (by simp), hWh.cell HB10.out.1 (by simp), hWh.cell HB10.out.2 (by simp), hWh.cell HB11.out.1 (by simp), hWh.cell HB11.out.2 (by simp), hWh.cell HB12.out.1 (by simp), hWh.cell HB12.out.2 (by simp), hWh.cell HB14.out.1 (by simp), hWh.cell HB14.out.2 (by simp)⟩ : (fun Wh : World => V23.grownBy Wh none ∧ Wh.cell? ⟨bB5, 0, none⟩ = some (.int .i64 2) ∧ Wh.cell? ⟨bB5, 1, none⟩ = some (.slice xa lL1 ya) ∧ Wh.cell? ⟨bB6, 0, none⟩ = some (.int .i64 2) ∧ Wh.cell? ⟨bB6, 1, none⟩ = some (.slice xb lL2 yb) ∧ Wh.cell? ⟨bB7, 0, none⟩ = some (.int .i64 2) ∧ Wh.cell? ⟨bB7, 1, none⟩ = some (.slice xr1 lL3 yr1) ∧ Wh.cell? ⟨bB8, 0, none⟩ = some (.int .i64 2) ∧ Wh.cell? ⟨bB8, 1, none⟩ = some (.slice xr2 lL4 yr2) ∧ Wh.cell? ⟨bB10, 0, none⟩ = some (.int .i64 2) ∧ Wh.cell? ⟨bB10, 1, none⟩ = some (.slice xr4 lL6 yr4) ∧ Wh.cell? ⟨bB11, 0, none⟩ = some (.int .i64 2) ∧ Wh.cell? ⟨bB11, 1, none⟩ = some (.slice xr5 lL5 yr5) ∧ Wh.cell? ⟨bB12, 0, none⟩ = some (.int .i64 2) ∧ Wh.cell? ⟨bB12, 1, none⟩ = some (.slice xr6 lL7 yr6) ∧ Wh.cell? ⟨bB14, 0, none⟩ = some (.int .i64 2) ∧ Wh.cell? ⟨bB14, 1, none⟩ = some (.slice xr12 lL8 yr12)) Wh))
  have hdr : V23.grownBy V23.drew none := ⟨rfl, rfl, rfl, Nat.le_refl _, fun _ _ _ => rfl⟩
  refine wp_region_held_drew (S := (fun Wh : World => V23.grownBy Wh none ∧ Wh.cell? ⟨bB5, 0, none⟩ = some (.int .i64 2) ∧ Wh.cell? ⟨bB5, 1, none⟩ = some (.slice xa lL1 ya) ∧ Wh.cell? ⟨bB6, 0, none⟩ = some (.int .i64 2) ∧ Wh.cell? ⟨bB6, 1, none⟩ = some (.slice xb lL2 yb) ∧ Wh.cell? ⟨bB7, 0, none⟩ = some (.int .i64 2) ∧ Wh.cell? ⟨bB7, 1, none⟩ = some (.slice xr1 lL3 yr1) ∧ Wh.cell? ⟨bB8, 0, none⟩ = some (.int .i64 2) ∧ Wh.cell? ⟨bB8, 1, none⟩ = some (.slice xr2 lL4 yr2) ∧ Wh.cell? ⟨bB10, 0, none⟩ = some (.int .i64 2) ∧ Wh.cell? ⟨bB10, 1, none⟩ = some (.slice xr4 lL6 yr4) ∧ Wh.cell? ⟨bB11, 0, none⟩ = some (.int .i64 2) ∧ Wh.cell? ⟨bB11, 1, none⟩ = some (.slice xr5 lL5 yr5) ∧ Wh.cell? ⟨bB12, 0, none⟩ = some (.int .i64 2) ∧ Wh.cell? ⟨bB12, 1, none⟩ = some (.slice xr6 lL7 yr6) ∧ Wh.cell? ⟨bB14, 0, none⟩ = some (.int .i64 2) ∧ Wh.cell? ⟨bB14, 1, none⟩ = some (.slice xr12 lL8 yr12))) (by kernel_rfl) (HS.out _ hdr) (fun hHeld => ?_)
  refine wpAnyH_take (i := 0) (oi := { dst := some 93, op := Op.move (Operand.tmp 3), type := 4, pos := "law.go:189", after := #[], guard := none }) (v := ?_) rfl (by kernel_rfl) (by kernel_rfl) (by kernel_rfl) (fun _ _ _ h => h) (Or.inl ⟨by rfl, ?_⟩) (by assumption) ?_
  rotate_left 1
  · (intro W hSW; (try dsimp only at hSW); first | (go_simp; done) | (go_simp; with_reducible rfl))
  try simp only [Act.put, List.setIfInBounds_toArray, List.set_cons_zero, List.set_cons_succ]
  refine wpAnyH_take (i := 1) (oi := { dst := some 94, op := Op.move (Operand.tmp 93), type := 4, pos := "law.go:189", after := #[{ on := 0, ground := Ground.data }], guard := none }) (v := ?_) rfl (by kernel_rfl) (by kernel_rfl) (by kernel_rfl) (fun _ _ _ h => h) (Or.inl ⟨by rfl, ?_⟩) (by assumption) ?_
  rotate_left 1
  · (intro W hSW; (try dsimp only at hSW); first | (go_simp; done) | (go_simp; with_reducible rfl))
  try simp only [Act.put, List.setIfInBounds_toArray, List.set_cons_zero, List.set_cons_succ]
  refine wpAnyH_take (i := 2) (oi := { dst := some 95, op := Op.move (Operand.tmp 15), type := 33, pos := "law.go:189", after := #[{ on := 1, ground := Ground.guard }], guard := some (1, true) }) (v := ?_) rfl (by kernel_rfl) (by kernel_rfl) (by kernel_rfl) (fun _ _ _ h => h) (Or.inl ⟨by rfl, ?_⟩) (by assumption) ?_
  rotate_left 1
  · (intro W hSW; (try dsimp only at hSW); first | (go_simp; done) | (go_simp; with_reducible rfl))
  try simp only [Act.put, List.setIfInBounds_toArray, List.set_cons_zero, List.set_cons_succ]
  refine wpAnyH_take (i := 3) (oi := { dst := some 96, op := Op.binOp BinOp.eql 33 (Operand.tmp 95) (Operand.const (Value.int IntKind.i64 0)) 33, type := 4, pos := "law.go:189", after := #[{ on := 2, ground := Ground.data }, { on := 1, ground := Ground.guard }], guard := some (1, true) }) (v := ?_) rfl (by kernel_rfl) (by kernel_rfl) (by kernel_rfl) (fun _ _ _ h => h) (Or.inl ⟨by rfl, ?_⟩) (by assumption) ?_
  rotate_left 1
  · (intro W hSW; (try dsimp only at hSW); first | (go_simp; done) | (go_simp; with_reducible rfl))
  try simp only [Act.put, List.setIfInBounds_toArray, List.set_cons_zero, List.set_cons_succ]
  refine wpAnyH_take (i := 4) (oi := { dst := some 97, op := Op.pick (Operand.tmp 94) (Operand.tmp 96) (Operand.const (Value.bool false)), type := 4, pos := "law.go:189", after := #[{ on := 1, ground := Ground.data }, { on := 3, ground := Ground.data }], guard := none }) (v := ?_) rfl (by kernel_rfl) (by kernel_rfl) (by kernel_rfl) (fun _ _ _ h => h) (Or.inl ⟨by rfl, ?_⟩) (by assumption) ?_
  rotate_left 1
  · (intro W hSW; (try dsimp only at hSW); first | (go_simp; done) | (go_simp; with_reducible rfl))
  try simp only [Act.put, List.setIfInBounds_toArray, List.set_cons_zero, List.set_cons_succ]
  refine wpAnyH_take (i := 5) (oi := { dst := some 98, op := Op.move (Operand.tmp 97), type := 4, pos := "law.go:189", after := #[{ on := 4, ground := Ground.data }, { on := 1, ground := Ground.chain }], guard := none }) (v := ?_) rfl (by kernel_rfl) (by kernel_rfl) (by kernel_rfl) (fun _ _ _ h => h) (Or.inl ⟨by rfl, ?_⟩) (by assumption) ?_
  rotate_left 1
  · (intro W hSW; (try dsimp only at hSW); first | (go_simp; done) | (go_simp; with_reducible rfl))
  try simp only [Act.put, List.setIfInBounds_toArray, List.set_cons_zero, List.set_cons_succ]
  refine wpAnyH_take (i := 6) (oi := { dst := some 99, op := Op.load 27 (Operand.tmp 7), type := 27, pos := "law.go:189", after := #[{ on := 5, ground := Ground.guard }], guard := some (5, true) }) (v := ?_) rfl (by kernel_rfl) (by kernel_rfl) (by kernel_rfl) (fun _ _ _ h => h) (Or.inl ⟨by rfl, ?_⟩) (by assumption) ?_
  rotate_left 1
  · (intro W hSW; (try dsimp only at hSW); first | (go_simp; done) | (go_simp; with_reducible rfl))
  try simp only [Act.put, List.setIfInBounds_toArray, List.set_cons_zero, List.set_cons_succ]
  refine wpAnyH_take (i := 7) (oi := { dst := some 100, op := Op.load 27 (Operand.tmp 5), type := 27, pos := "law.go:189", after := #[{ on := 5, ground := Ground.guard }], guard := some (5, true) }) (v := ?_) rfl (by kernel_rfl) (by kernel_rfl) (by kernel_rfl) (fun _ _ _ h => h) (Or.inl ⟨by rfl, ?_⟩) (by assumption) ?_
  rotate_left 1
  · (intro W hSW; (try dsimp only at hSW); first | (go_simp; done) | (go_simp; with_reducible rfl))
  try simp only [Act.put, List.setIfInBounds_toArray, List.set_cons_zero, List.set_cons_succ]
  refine wpAnyH_take (i := 8) (oi := { dst := some 101, op := Op.load 27 (Operand.tmp 14), type := 27, pos := "law.go:189", after := #[{ on := 5, ground := Ground.guard }], guard := some (5, true) }) (v := ?_) rfl (by kernel_rfl) (by kernel_rfl) (by kernel_rfl) (fun _ _ _ h => h) (Or.inl ⟨by rfl, ?_⟩) (by assumption) ?_
  rotate_left 1
  · (intro W hSW; (try dsimp only at hSW); first | (go_simp; done) | (go_simp; with_reducible rfl))
  try simp only [Act.put, List.setIfInBounds_toArray, List.set_cons_zero, List.set_cons_succ]
  refine wpAnyH_ready (rs := [9]) (by kernel_rfl) (by simp) ?_
  refine (AllReadyH.cons (o := { dst := some 102, op := Op.call { callee := Callee.value (Operand.func 27), args := #[Operand.tmp 100, Operand.tmp 101], argTypes := #[27, 27] }, type := 27, pos := "law.go:189", after := #[{ on := 7, ground := Ground.data }, { on := 8, ground := Ground.data }, { on := 5, ground := Ground.chain }, { on := 5, ground := Ground.guard }], guard := some (5, true) }) rfl (fun K hK => ?_) AllReadyH.nil)
  rw [if_pos (by rfl)]
  go_simp
  go_at_call 27
  refine (unionV (2 : Nat) (2 : Nat) vL1.out vL8.out hn5 (by omega) (by rw [← EL1.out, ← EL8.out]; exact EL9.out) ZL1.out ZL8.out ZL9.out _ _ _ _ _ (Ha.out.grown hdr) (Hr12.out.grown hdr)).mono ?_
  rintro e wc9 ⟨xr13, yr13, rfl, hrr13, gc9⟩
  have hgr9 := World.grownBy.trans hdr gc9
  go_wp2_with fail
  refine hK.out _ _ (HS.out _ hgr9) (fun hHeld => ?_)
  clear hK K
  try simp only [Act.put, List.setIfInBounds_toArray, List.set_cons_zero, List.set_cons_succ]
  refine wpAnyH_ready (rs := [10]) (by kernel_rfl) (by simp) ?_
  refine (AllReadyH.cons (o := { dst := some 103, op := Op.call { callee := Callee.value (Operand.func 19), args := #[Operand.tmp 99, Operand.tmp 102], argTypes := #[27, 27] }, type := 4, pos := "law.go:189", after := #[{ on := 6, ground := Ground.data }, { on := 9, ground := Ground.data }, { on := 9, ground := Ground.chain }, { on := 5, ground := Ground.guard }], guard := some (5, true) }) rfl (fun K hK => ?_) AllReadyH.nil)
  rw [if_pos (by rfl)]
  go_simp
  go_at_call 19
  refine (equalV (k := 2) (Q := true) (2 : Nat) (2 : Nat) vL3.out hn5 (by omega) (eqQ _ Q14.out) ZL3.out ZL9.out _ _ _ _ _ (Hr1.out.grown hgr9) hrr13).mono ?_
  rintro e wc10 ⟨rfl, gc10⟩
  have hgr10 := World.grownBy.trans hgr9 gc10
  go_wp2_with fail
  refine hK.out _ _ (HS.out _ hgr10) (fun hHeld => ?_)
  clear hK K
  try simp only [Act.put, List.setIfInBounds_toArray, List.set_cons_zero, List.set_cons_succ]
  refine wpAnyH_take (i := 11) (oi := { dst := some 104, op := Op.pick (Operand.tmp 98) (Operand.tmp 103) (Operand.const (Value.bool false)), type := 4, pos := "law.go:189", after := #[{ on := 5, ground := Ground.data }, { on := 10, ground := Ground.data }], guard := none }) (v := ?_) rfl (by kernel_rfl) (by kernel_rfl) (by kernel_rfl) (fun _ _ _ h => h) (Or.inl ⟨by rfl, ?_⟩) (by assumption) ?_
  rotate_left 1
  · (intro W hSW; (try dsimp only at hSW); first | (go_simp; done) | (go_simp; with_reducible rfl))
  try simp only [Act.put, List.setIfInBounds_toArray, List.set_cons_zero, List.set_cons_succ]
  refine wpAnyH_take (i := 12) (oi := { dst := some 105, op := Op.move (Operand.tmp 104), type := 4, pos := "law.go:189", after := #[{ on := 11, ground := Ground.data }, { on := 10, ground := Ground.chain }], guard := none }) (v := ?_) rfl (by kernel_rfl) (by kernel_rfl) (by kernel_rfl) (fun _ _ _ h => h) (Or.inl ⟨by rfl, ?_⟩) (by assumption) ?_
  rotate_left 1
  · (intro W hSW; (try dsimp only at hSW); first | (go_simp; done) | (go_simp; with_reducible rfl))
  try simp only [Act.put, List.setIfInBounds_toArray, List.set_cons_zero, List.set_cons_succ]
  refine wpAnyH_take (i := 13) (oi := { dst := some 106, op := Op.move (Operand.tmp 4), type := 3, pos := "law.go:189", after := #[{ on := 12, ground := Ground.guard }], guard := some (12, true) }) (v := ?_) rfl (by kernel_rfl) (by kernel_rfl) (by kernel_rfl) (fun _ _ _ h => h) (Or.inl ⟨by rfl, ?_⟩) (by assumption) ?_
  rotate_left 1
  · (intro W hSW; (try dsimp only at hSW); first | (go_simp; done) | (go_simp; with_reducible rfl))
  try simp only [Act.put, List.setIfInBounds_toArray, List.set_cons_zero, List.set_cons_succ]
  refine wpAnyH_take (i := 14) (oi := { dst := some 107, op := Op.load 27 (Operand.tmp 7), type := 27, pos := "law.go:189", after := #[{ on := 12, ground := Ground.guard }], guard := some (12, true) }) (v := ?_) rfl (by kernel_rfl) (by kernel_rfl) (by kernel_rfl) (fun _ _ _ h => h) (Or.inl ⟨by rfl, ?_⟩) (by assumption) ?_
  rotate_left 1
  · (intro W hSW; (try dsimp only at hSW); first | (go_simp; done) | (go_simp; with_reducible rfl))
  try simp only [Act.put, List.setIfInBounds_toArray, List.set_cons_zero, List.set_cons_succ]
  refine wpAnyH_take (i := 16) (oi := { dst := some 109, op := Op.load 27 (Operand.tmp 7), type := 27, pos := "law.go:189", after := #[{ on := 12, ground := Ground.guard }], guard := some (12, true) }) (v := ?_) rfl (by kernel_rfl) (by kernel_rfl) (by kernel_rfl) (fun _ _ _ h => h) (Or.inl ⟨by rfl, ?_⟩) (by assumption) ?_
  rotate_left 1
  · (intro W hSW; (try dsimp only at hSW); first | (go_simp; done) | (go_simp; with_reducible rfl))
  try simp only [Act.put, List.setIfInBounds_toArray, List.set_cons_zero, List.set_cons_succ]
  refine wpAnyH_ready (rs := [15]) (by kernel_rfl) (by simp) ?_
  refine (AllReadyH.cons (o := { dst := some 108, op := Op.call { callee := Callee.value (Operand.func 23), args := #[Operand.tmp 106, Operand.tmp 107], argTypes := #[3, 27] }, type := 27, pos := "law.go:189", after := #[{ on := 13, ground := Ground.data }, { on := 14, ground := Ground.data }, { on := 12, ground := Ground.chain }, { on := 12, ground := Ground.guard }], guard := some (12, true) }) rfl (fun K hK => ?_) AllReadyH.nil)
  rw [if_pos (by rfl)]
  go_simp
  go_at_call 23
  refine (closV vL3.out hn5 (by rw [← EL3.out]; exact EL10.out) ZL3.out ZL10.out _ _ _ (Hr1.out.grown hgr10)).mono ?_
  rintro e wc15 ⟨xr15, yr15, rfl, hrr15, gc15⟩
  have hgr15 := World.grownBy.trans hgr10 gc15
  go_wp2_with fail
  refine hK.out _ _ (HS.out _ hgr15) (fun hHeld => ?_)
  clear hK K
  try simp only [Act.put, List.setIfInBounds_toArray, List.set_cons_zero, List.set_cons_succ]
  refine wpAnyH_ready (rs := [17]) (by kernel_rfl) (by simp) ?_
  refine (AllReadyH.cons (o := { dst := some 110, op := Op.call { callee := Callee.value (Operand.func 19), args := #[Operand.tmp 108, Operand.tmp 109], argTypes := #[27, 27] }, type := 4, pos := "law.go:189", after := #[{ on := 15, ground := Ground.data }, { on := 16, ground := Ground.data }, { on := 15, ground := Ground.chain }, { on := 12, ground := Ground.guard }], guard := some (12, true) }) rfl (fun K hK => ?_) AllReadyH.nil)
  rw [if_pos (by rfl)]
  go_simp
  go_at_call 19
  refine (equalV (k := 2) (Q := true) (2 : Nat) (2 : Nat) vL10.out hn5 (by omega) (eqQ _ Q16.out) ZL10.out ZL3.out _ _ _ _ _ hrr15 (Hr1.out.grown hgr15)).mono ?_
  rintro e wc17 ⟨rfl, gc17⟩
  have hgr17 := World.grownBy.trans hgr15 gc17
  go_wp2_with fail
  refine hK.out _ _ (HS.out _ hgr17) (fun hHeld => ?_)
  clear hK K
  try simp only [Act.put, List.setIfInBounds_toArray, List.set_cons_zero, List.set_cons_succ]
  refine wpAnyH_take (i := 18) (oi := { dst := some 111, op := Op.pick (Operand.tmp 105) (Operand.tmp 110) (Operand.const (Value.bool false)), type := 4, pos := "law.go:189", after := #[{ on := 12, ground := Ground.data }, { on := 17, ground := Ground.data }], guard := none }) (v := ?_) rfl (by kernel_rfl) (by kernel_rfl) (by kernel_rfl) (fun _ _ _ h => h) (Or.inl ⟨by rfl, ?_⟩) (by assumption) ?_
  rotate_left 1
  · (intro W hSW; (try dsimp only at hSW); first | (go_simp; done) | (go_simp; with_reducible rfl))
  try simp only [Act.put, List.setIfInBounds_toArray, List.set_cons_zero, List.set_cons_succ]
  refine wpAnyH_take (i := 19) (oi := { dst := some 112, op := Op.move (Operand.tmp 111), type := 4, pos := "law.go:189", after := #[{ on := 18, ground := Ground.data }, { on := 17, ground := Ground.chain }], guard := none }) (v := ?_) rfl (by kernel_rfl) (by kernel_rfl) (by kernel_rfl) (fun _ _ _ h => h) (Or.inl ⟨by rfl, ?_⟩) (by assumption) ?_
  rotate_left 1
  · (intro W hSW; (try dsimp only at hSW); first | (go_simp; done) | (go_simp; with_reducible rfl))
  try simp only [Act.put, List.setIfInBounds_toArray, List.set_cons_zero, List.set_cons_succ]
  refine wpAnyH_take (i := 20) (oi := { dst := some 113, op := Op.move (Operand.tmp 4), type := 3, pos := "law.go:189", after := #[{ on := 19, ground := Ground.guard }], guard := some (19, true) }) (v := ?_) rfl (by kernel_rfl) (by kernel_rfl) (by kernel_rfl) (fun _ _ _ h => h) (Or.inl ⟨by rfl, ?_⟩) (by assumption) ?_
  rotate_left 1
  · (intro W hSW; (try dsimp only at hSW); first | (go_simp; done) | (go_simp; with_reducible rfl))
  try simp only [Act.put, List.setIfInBounds_toArray, List.set_cons_zero, List.set_cons_succ]
  refine wpAnyH_take (i := 21) (oi := { dst := some 114, op := Op.move (Operand.tmp 4), type := 3, pos := "law.go:189", after := #[{ on := 19, ground := Ground.guard }], guard := some (19, true) }) (v := ?_) rfl (by kernel_rfl) (by kernel_rfl) (by kernel_rfl) (fun _ _ _ h => h) (Or.inl ⟨by rfl, ?_⟩) (by assumption) ?_
  rotate_left 1
  · (intro W hSW; (try dsimp only at hSW); first | (go_simp; done) | (go_simp; with_reducible rfl))
  try simp only [Act.put, List.setIfInBounds_toArray, List.set_cons_zero, List.set_cons_succ]
  refine wpAnyH_take (i := 22) (oi := { dst := some 115, op := Op.load 27 (Operand.tmp 5), type := 27, pos := "law.go:189", after := #[{ on := 19, ground := Ground.guard }], guard := some (19, true) }) (v := ?_) rfl (by kernel_rfl) (by kernel_rfl) (by kernel_rfl) (fun _ _ _ h => h) (Or.inl ⟨by rfl, ?_⟩) (by assumption) ?_
  rotate_left 1
  · (intro W hSW; (try dsimp only at hSW); first | (go_simp; done) | (go_simp; with_reducible rfl))
  try simp only [Act.put, List.setIfInBounds_toArray, List.set_cons_zero, List.set_cons_succ]
  refine wpAnyH_take (i := 25) (oi := { dst := some 118, op := Op.move (Operand.tmp 4), type := 3, pos := "law.go:189", after := #[{ on := 19, ground := Ground.guard }], guard := some (19, true) }) (v := ?_) rfl (by kernel_rfl) (by kernel_rfl) (by kernel_rfl) (fun _ _ _ h => h) (Or.inl ⟨by rfl, ?_⟩) (by assumption) ?_
  rotate_left 1
  · (intro W hSW; (try dsimp only at hSW); first | (go_simp; done) | (go_simp; with_reducible rfl))
  try simp only [Act.put, List.setIfInBounds_toArray, List.set_cons_zero, List.set_cons_succ]
  refine wpAnyH_take (i := 26) (oi := { dst := some 119, op := Op.load 27 (Operand.tmp 7), type := 27, pos := "law.go:189", after := #[{ on := 19, ground := Ground.guard }], guard := some (19, true) }) (v := ?_) rfl (by kernel_rfl) (by kernel_rfl) (by kernel_rfl) (fun _ _ _ h => h) (Or.inl ⟨by rfl, ?_⟩) (by assumption) ?_
  rotate_left 1
  · (intro W hSW; (try dsimp only at hSW); first | (go_simp; done) | (go_simp; with_reducible rfl))
  try simp only [Act.put, List.setIfInBounds_toArray, List.set_cons_zero, List.set_cons_succ]
  refine wpAnyH_ready (rs := [23]) (by kernel_rfl) (by simp) ?_
  refine (AllReadyH.cons (o := { dst := some 116, op := Op.call { callee := Callee.value (Operand.func 21), args := #[Operand.tmp 114, Operand.tmp 115], argTypes := #[3, 27] }, type := 27, pos := "law.go:189", after := #[{ on := 21, ground := Ground.data }, { on := 22, ground := Ground.data }, { on := 19, ground := Ground.chain }, { on := 19, ground := Ground.guard }], guard := some (19, true) }) rfl (fun K hK => ?_) AllReadyH.nil)
  rw [if_pos (by rfl)]
  go_simp
  go_at_call 21
  refine (turnV vL1.out hn1 hn5 (by rw [← EL1.out]; exact EL11.out) ZL1.out ZL11.out _ _ _ (Ha.out.grown hgr17)).mono ?_
  rintro e wc23 ⟨xr17, yr17, rfl, hrr17, gc23⟩
  have hgr23 := World.grownBy.trans hgr17 gc23
  go_wp2_with fail
  refine hK.out _ _ (HS.out _ hgr23) (fun hHeld => ?_)
  clear hK K
  try simp only [Act.put, List.setIfInBounds_toArray, List.set_cons_zero, List.set_cons_succ]
  refine wpAnyH_ready (rs := [24]) (by kernel_rfl) (by simp) ?_
  refine (AllReadyH.cons (o := { dst := some 117, op := Op.call { callee := Callee.value (Operand.func 23), args := #[Operand.tmp 113, Operand.tmp 116], argTypes := #[3, 27] }, type := 27, pos := "law.go:189", after := #[{ on := 20, ground := Ground.data }, { on := 23, ground := Ground.data }, { on := 23, ground := Ground.chain }, { on := 19, ground := Ground.guard }], guard := some (19, true) }) rfl (fun K hK => ?_) AllReadyH.nil)
  rw [if_pos (by rfl)]
  go_simp
  go_at_call 23
  refine (closV vL11.out hn5 (by rw [← EL11.out]; exact EL12.out) ZL11.out ZL12.out _ _ _ hrr17).mono ?_
  rintro e wc24 ⟨xr18, yr18, rfl, hrr18, gc24⟩
  have hgr24 := World.grownBy.trans hgr23 gc24
  go_wp2_with fail
  refine hK.out _ _ (HS.out _ hgr24) (fun hHeld => ?_)
  clear hK K
  try simp only [Act.put, List.setIfInBounds_toArray, List.set_cons_zero, List.set_cons_succ]
  refine wpAnyH_ready (rs := [27]) (by kernel_rfl) (by simp) ?_
  refine (AllReadyH.cons (o := { dst := some 120, op := Op.call { callee := Callee.value (Operand.func 21), args := #[Operand.tmp 118, Operand.tmp 119], argTypes := #[3, 27] }, type := 27, pos := "law.go:189", after := #[{ on := 25, ground := Ground.data }, { on := 26, ground := Ground.data }, { on := 24, ground := Ground.chain }, { on := 19, ground := Ground.guard }], guard := some (19, true) }) rfl (fun K hK => ?_) AllReadyH.nil)
  rw [if_pos (by rfl)]
  go_simp
  go_at_call 21
  refine (turnV vL3.out hn1 hn5 (by rw [← EL3.out]; exact EL13.out) ZL3.out ZL13.out _ _ _ (Hr1.out.grown hgr24)).mono ?_
  rintro e wc27 ⟨xr19, yr19, rfl, hrr19, gc27⟩
  have hgr27 := World.grownBy.trans hgr24 gc27
  go_wp2_with fail
  refine hK.out _ _ (HS.out _ hgr27) (fun hHeld => ?_)
  clear hK K
  try simp only [Act.put, List.setIfInBounds_toArray, List.set_cons_zero, List.set_cons_succ]
  refine wpAnyH_ready (rs := [28]) (by kernel_rfl) (by simp) ?_
  refine (AllReadyH.cons (o := { dst := some 121, op := Op.call { callee := Callee.value (Operand.func 19), args := #[Operand.tmp 117, Operand.tmp 120], argTypes := #[27, 27] }, type := 4, pos := "law.go:189", after := #[{ on := 24, ground := Ground.data }, { on := 27, ground := Ground.data }, { on := 27, ground := Ground.chain }, { on := 19, ground := Ground.guard }], guard := some (19, true) }) rfl (fun K hK => ?_) AllReadyH.nil)
  rw [if_pos (by rfl)]
  go_simp
  go_at_call 19
  refine (equalV (k := 2) (Q := true) (2 : Nat) (2 : Nat) vL12.out hn5 (by omega) (eqQ _ Q20.out) ZL12.out ZL13.out _ _ _ _ _ (hrr18.grown gc27) hrr19).mono ?_
  rintro e wc28 ⟨rfl, gc28⟩
  have hgr28 := World.grownBy.trans hgr27 gc28
  go_wp2_with fail
  refine hK.out _ _ (HS.out _ hgr28) (fun hHeld => ?_)
  clear hK K
  try simp only [Act.put, List.setIfInBounds_toArray, List.set_cons_zero, List.set_cons_succ]
  refine wpAnyH_take (i := 29) (oi := { dst := some 122, op := Op.pick (Operand.tmp 112) (Operand.tmp 121) (Operand.const (Value.bool false)), type := 4, pos := "law.go:189", after := #[{ on := 19, ground := Ground.data }, { on := 28, ground := Ground.data }], guard := none }) (v := ?_) rfl (by kernel_rfl) (by kernel_rfl) (by kernel_rfl) (fun _ _ _ h => h) (Or.inl ⟨by rfl, ?_⟩) (by assumption) ?_
  rotate_left 1
  · (intro W hSW; (try dsimp only at hSW); first | (go_simp; done) | (go_simp; with_reducible rfl))
  try simp only [Act.put, List.setIfInBounds_toArray, List.set_cons_zero, List.set_cons_succ]
  refine wpAnyH_take (i := 30) (oi := { dst := some 2, op := Op.assign (Operand.tmp 122), type := 4, pos := "law.go:189", after := #[{ on := 29, ground := Ground.data }, { on := 28, ground := Ground.chain }, { on := 0, ground := Ground.phase }, { on := 1, ground := Ground.phase }, { on := 2, ground := Ground.phase }, { on := 3, ground := Ground.phase }, { on := 4, ground := Ground.phase }, { on := 5, ground := Ground.phase }, { on := 6, ground := Ground.phase }, { on := 7, ground := Ground.phase }, { on := 8, ground := Ground.phase }, { on := 9, ground := Ground.phase }, { on := 10, ground := Ground.phase }, { on := 11, ground := Ground.phase }, { on := 12, ground := Ground.phase }, { on := 13, ground := Ground.phase }, { on := 14, ground := Ground.phase }, { on := 15, ground := Ground.phase }, { on := 16, ground := Ground.phase }, { on := 17, ground := Ground.phase }, { on := 18, ground := Ground.phase }, { on := 19, ground := Ground.phase }, { on := 20, ground := Ground.phase }, { on := 21, ground := Ground.phase }, { on := 22, ground := Ground.phase }, { on := 23, ground := Ground.phase }, { on := 24, ground := Ground.phase }, { on := 25, ground := Ground.phase }, { on := 26, ground := Ground.phase }, { on := 27, ground := Ground.phase }, { on := 28, ground := Ground.phase }, { on := 29, ground := Ground.phase }], guard := none }) (v := ?_) rfl (by kernel_rfl) (by kernel_rfl) (by kernel_rfl) (fun _ _ _ h => h) (Or.inl ⟨by rfl, ?_⟩) (by assumption) ?_
  rotate_left 1
  · (intro W hSW; (try dsimp only at hSW); first | (go_simp; done) | (go_simp; with_reducible rfl))
  try simp only [Act.put, List.setIfInBounds_toArray, List.set_cons_zero, List.set_cons_succ]
  refine wpAnyH_done (by kernel_rfl) ?_ _
  have hEND := hgr28
  clear hHeld
  have HE := Lib.hid (World.grownBy.trans HG.out hEND)
  clear hEND
  go_wp2_with fail
  go_ret
  exact ⟨rfl, HE.out⟩

set_option maxRecDepth 100000 in
set_option maxHeartbeats 20000000 in
theorem closures_false (N Ar : Nat) (A0 B0 C0 : List Nat) (aa ab ac : Option Addr) (ca cb cc : Nat) (W0 : World) (h : RawAt W0 N Ar A0 B0 C0 aa ab ac ca cb cc) (hQ : ¬ ∀ z ∈ uniq (joinP (1 + N % 5) ((1 + N % 5) ^ (2 - 1)) (unionL (fromL (1 + N % 5) 2 A0) (fromL (1 + N % 5) 2 B0)) (unionL (fromL (1 + N % 5) 2 A0) (fromL (1 + N % 5) 2 B0))), z ∈ unionL (fromL (1 + N % 5) 2 A0) (fromL (1 + N % 5) 2 B0)) :
    Calls Try.prog 8 #[.agg #[.int .u8 (N : Int), .int .u8 (Ar : Int), .slice aa A0.length ca, .slice ab B0.length cb, .slice ac C0.length cc]] W0 fun e w' => e = .returned (.bool true) ∧ W0.grownBy w' none := by
  have HAT := Lib.hid (fun U => atoms_calls N h.hN U)
  obtain ⟨n, hn⟩ : ∃ n, 1 + N % 5 = n := ⟨_, rfl⟩
  rw [hn] at HAT hQ
  have hn1 : 1 ≤ n := by omega
  have hn5 : n ≤ 5 := by omega
  clear hn
  obtain ⟨L1, hL1⟩ : ∃ l : List Int, fromL n 2 A0 = l := ⟨_, rfl⟩
  have vL1 := Lib.hid (by rw [← hL1]; exact VR.from n 2 A0 hn1 : VR n (2) L1)
  obtain ⟨lL1, hlL1⟩ : ∃ l, L1.length = l := ⟨_, rfl⟩
  have EL1 := Lib.hid hL1
  have ZL1 := Lib.hid hlL1
  clear hL1 hlL1
  obtain ⟨L2, hL2⟩ : ∃ l : List Int, fromL n 2 B0 = l := ⟨_, rfl⟩
  have vL2 := Lib.hid (by rw [← hL2]; exact VR.from n 2 B0 hn1 : VR n (2) L2)
  obtain ⟨lL2, hlL2⟩ : ∃ l, L2.length = l := ⟨_, rfl⟩
  have EL2 := Lib.hid hL2
  have ZL2 := Lib.hid hlL2
  clear hL2 hlL2
  obtain ⟨L3, hL3⟩ : ∃ l : List Int, uniq (closS n (fromL n 2 A0)) = l := ⟨_, rfl⟩
  have vL3 := Lib.hid (by rw [← hL3]; exact VR.clos (by rw [EL1.out]; exact vL1.out) : VR n (2) L3)
  obtain ⟨lL3, hlL3⟩ : ∃ l, L3.length = l := ⟨_, rfl⟩
  have EL3 := Lib.hid hL3
  have ZL3 := Lib.hid hlL3
  clear hL3 hlL3
  obtain ⟨L4, hL4⟩ : ∃ l : List Int, uniq (joinP n (n ^ (2 - 1)) (uniq (closS n (fromL n 2 A0))) (uniq (closS n (fromL n 2 A0)))) = l := ⟨_, rfl⟩
  have vL4 := Lib.hid (by rw [← hL4]; exact (by have h := VR.join (n := n) (k := 2) (j := 2) (A := uniq (closS n (fromL n 2 A0))) (B := uniq (closS n (fromL n 2 A0))) (by rw [EL3.out]; exact vL3.out) (by rw [EL3.out]; exact vL3.out) hn1 (by omega) (by omega); rw [show 2 + 2 - 2 = 2 by omega] at h; exact h) : VR n (2) L4)
  obtain ⟨lL4, hlL4⟩ : ∃ l, L4.length = l := ⟨_, rfl⟩
  have EL4 := Lib.hid hL4
  have ZL4 := Lib.hid hlL4
  clear hL4 hlL4
  obtain ⟨L5, hL5⟩ : ∃ l : List Int, unionL (fromL n 2 A0) (fromL n 2 B0) = l := ⟨_, rfl⟩
  have vL5 := Lib.hid (by rw [← hL5]; exact VR.union (by rw [EL1.out]; exact vL1.out) (by rw [EL2.out]; exact vL2.out) : VR n (2) L5)
  obtain ⟨lL5, hlL5⟩ : ∃ l, L5.length = l := ⟨_, rfl⟩
  have EL5 := Lib.hid hL5
  have ZL5 := Lib.hid hlL5
  clear hL5 hlL5
  obtain ⟨L6, hL6⟩ : ∃ l : List Int, uniq (closS n (unionL (fromL n 2 A0) (fromL n 2 B0))) = l := ⟨_, rfl⟩
  have vL6 := Lib.hid (by rw [← hL6]; exact VR.clos (by rw [EL5.out]; exact vL5.out) : VR n (2) L6)
  obtain ⟨lL6, hlL6⟩ : ∃ l, L6.length = l := ⟨_, rfl⟩
  have EL6 := Lib.hid hL6
  have ZL6 := Lib.hid hlL6
  clear hL6 hlL6
  obtain ⟨L7, hL7⟩ : ∃ l : List Int, uniq (joinP n (n ^ (2 - 1)) (unionL (fromL n 2 A0) (fromL n 2 B0)) (unionL (fromL n 2 A0) (fromL n 2 B0))) = l := ⟨_, rfl⟩
  have vL7 := Lib.hid (by rw [← hL7]; exact (by have h := VR.join (n := n) (k := 2) (j := 2) (A := unionL (fromL n 2 A0) (fromL n 2 B0)) (B := unionL (fromL n 2 A0) (fromL n 2 B0)) (by rw [EL5.out]; exact vL5.out) (by rw [EL5.out]; exact vL5.out) hn1 (by omega) (by omega); rw [show 2 + 2 - 2 = 2 by omega] at h; exact h) : VR n (2) L7)
  obtain ⟨lL7, hlL7⟩ : ∃ l, L7.length = l := ⟨_, rfl⟩
  have EL7 := Lib.hid hL7
  have ZL7 := Lib.hid hlL7
  clear hL7 hlL7
  have Q7 := Lib.hid (show ∀ z ∈ L1, z ∈ L3 from by rw [← EL1.out, ← EL3.out]; exact closL_sub (VR.from n 2 A0 hn1))
  have Q8 := Lib.hid (show ∀ z ∈ L4, z ∈ L3 from by rw [← EL4.out, ← EL3.out]; exact closL_twice (VR.from n 2 A0 hn1) hn1)
  have Q9 := Lib.hid (show ∀ z ∈ L3, z ∈ L6 from by rw [← EL3.out, ← EL6.out]; exact closL_more (VR.from n 2 A0 hn1) (VR.from n 2 B0 hn1))
  have Q10 := Lib.hid (show ¬ (∀ z ∈ L7, z ∈ L5) from by rw [← EL7.out, ← EL5.out]; exact hQ)
  obtain ⟨L8, hL8⟩ : ∃ l : List Int, uniq (joinP n (n ^ (2 - 1)) (fromL n 2 A0) (uniq (closS n (fromL n 2 A0)))) = l := ⟨_, rfl⟩
  have vL8 := Lib.hid (by rw [← hL8]; exact (by have h := VR.join (n := n) (k := 2) (j := 2) (A := fromL n 2 A0) (B := uniq (closS n (fromL n 2 A0))) (by rw [EL1.out]; exact vL1.out) (by rw [EL3.out]; exact vL3.out) hn1 (by omega) (by omega); rw [show 2 + 2 - 2 = 2 by omega] at h; exact h) : VR n (2) L8)
  obtain ⟨lL8, hlL8⟩ : ∃ l, L8.length = l := ⟨_, rfl⟩
  have EL8 := Lib.hid hL8
  have ZL8 := Lib.hid hlL8
  clear hL8 hlL8
  obtain ⟨L9, hL9⟩ : ∃ l : List Int, unionL (fromL n 2 A0) (uniq (joinP n (n ^ (2 - 1)) (fromL n 2 A0) (uniq (closS n (fromL n 2 A0))))) = l := ⟨_, rfl⟩
  have vL9 := Lib.hid (by rw [← hL9]; exact VR.union (by rw [EL1.out]; exact vL1.out) (by rw [EL8.out]; exact vL8.out) : VR n (2) L9)
  obtain ⟨lL9, hlL9⟩ : ∃ l, L9.length = l := ⟨_, rfl⟩
  have EL9 := Lib.hid hL9
  have ZL9 := Lib.hid hlL9
  clear hL9 hlL9
  have Q13 := Lib.hid (show L3 = L9 from by rw [← EL3.out, ← EL9.out]; exact closL_step (VR.from n 2 A0 hn1) hn1)
  obtain ⟨L10, hL10⟩ : ∃ l : List Int, uniq (closS n (uniq (closS n (fromL n 2 A0)))) = l := ⟨_, rfl⟩
  have vL10 := Lib.hid (by rw [← hL10]; exact VR.clos (by rw [EL3.out]; exact vL3.out) : VR n (2) L10)
  obtain ⟨lL10, hlL10⟩ : ∃ l, L10.length = l := ⟨_, rfl⟩
  have EL10 := Lib.hid hL10
  have ZL10 := Lib.hid hlL10
  clear hL10 hlL10
  have Q15 := Lib.hid (show L10 = L3 from by rw [← EL10.out, ← EL3.out]; exact closL_idem (VR.from n 2 A0 hn1))
  obtain ⟨L11, hL11⟩ : ∃ l : List Int, uniq (turnL n (fromL n 2 A0)) = l := ⟨_, rfl⟩
  have vL11 := Lib.hid (by rw [← hL11]; exact VR.turn (by rw [EL1.out]; exact vL1.out) hn1 : VR n (2) L11)
  obtain ⟨lL11, hlL11⟩ : ∃ l, L11.length = l := ⟨_, rfl⟩
  have EL11 := Lib.hid hL11
  have ZL11 := Lib.hid hlL11
  clear hL11 hlL11
  obtain ⟨L12, hL12⟩ : ∃ l : List Int, uniq (closS n (uniq (turnL n (fromL n 2 A0)))) = l := ⟨_, rfl⟩
  have vL12 := Lib.hid (by rw [← hL12]; exact VR.clos (by rw [EL11.out]; exact vL11.out) : VR n (2) L12)
  obtain ⟨lL12, hlL12⟩ : ∃ l, L12.length = l := ⟨_, rfl⟩
  have EL12 := Lib.hid hL12
  have ZL12 := Lib.hid hlL12
  clear hL12 hlL12
  obtain ⟨L13, hL13⟩ : ∃ l : List Int, uniq (turnL n (uniq (closS n (fromL n 2 A0)))) = l := ⟨_, rfl⟩
  have vL13 := Lib.hid (by rw [← hL13]; exact VR.turn (by rw [EL3.out]; exact vL3.out) hn1 : VR n (2) L13)
  obtain ⟨lL13, hlL13⟩ : ∃ l, L13.length = l := ⟨_, rfl⟩
  have EL13 := Lib.hid hL13
  have ZL13 := Lib.hid hlL13
  clear hL13 hlL13
  have Q19 := Lib.hid (show L12 = L13 from by rw [← EL12.out, ← EL13.out]; exact closL_turn (VR.from n 2 A0 hn1) hn1)
  obtain ⟨lA0, hlA0⟩ : ∃ l, A0.length = l := ⟨_, rfl⟩
  obtain ⟨lB0, hlB0⟩ : ∃ l, B0.length = l := ⟨_, rfl⟩
  obtain ⟨lC0, hlC0⟩ : ∃ l, C0.length = l := ⟨_, rfl⟩
  have ZA0 := Lib.hid hlA0; have ZB0 := Lib.hid hlB0; have ZC0 := Lib.hid hlC0
  rw [hlA0, hlB0, hlC0]
  clear hlA0 hlB0 hlC0
  have hg := World.grownBy_alloc W0 (.cells #[.int .u8 (N : Int), .int .u8 (Ar : Int), .slice aa lA0 ca, .slice ab lB0 cb, .slice ac lC0 cc] 24) none
  have hb0 : (W0.alloc (.cells #[.int .u8 (N : Int), .int .u8 (Ar : Int), .slice aa lA0 ca, .slice ab lB0 cb, .slice ac lC0 cc] 24)).cell? ⟨W0.heap.size, 0, none⟩ = some (.int .u8 (N : Int)) := by go_simp
  have hb1 : (W0.alloc (.cells #[.int .u8 (N : Int), .int .u8 (Ar : Int), .slice aa lA0 ca, .slice ab lB0 cb, .slice ac lC0 cc] 24)).cell? ⟨W0.heap.size, 1, none⟩ = some (.int .u8 (Ar : Int)) := by go_simp
  have hb2 : (W0.alloc (.cells #[.int .u8 (N : Int), .int .u8 (Ar : Int), .slice aa lA0 ca, .slice ab lB0 cb, .slice ac lC0 cc] 24)).cell? ⟨W0.heap.size, 2, none⟩ = some (.slice aa lA0 ca) := by go_simp
  have hb3 : (W0.alloc (.cells #[.int .u8 (N : Int), .int .u8 (Ar : Int), .slice aa lA0 ca, .slice ab lB0 cb, .slice ac lC0 cc] 24)).cell? ⟨W0.heap.size, 3, none⟩ = some (.slice ab lB0 cb) := by go_simp
  have hb4 : (W0.alloc (.cells #[.int .u8 (N : Int), .int .u8 (Ar : Int), .slice aa lA0 ca, .slice ab lB0 cb, .slice ac lC0 cc] 24)).cell? ⟨W0.heap.size, 4, none⟩ = some (.slice ac lC0 cc) := by go_simp
  obtain ⟨V0, hV0⟩ : ∃ V, W0.alloc (.cells #[.int .u8 (N : Int), .int .u8 (Ar : Int), .slice aa lA0 ca, .slice ab lB0 cb, .slice ac lC0 cc] 24) = V := ⟨_, rfl⟩
  rw [hV0] at hg hb0 hb1 hb2 hb3 hb4
  have HG := Lib.hid hg
  have HRB := Lib.hid (And.intro hb0 (And.intro hb1 (And.intro hb2 (And.intro hb3 hb4))))
  have HR := Lib.hid (h.grown hg)
  clear hg hb0 hb1 hb2 hb3 hb4 h
  go_enter Try.func8, Try.ntmps8
  have qr0 := HRB.out.1
  have qr1 := HRB.out.2.1
  have qr2 := HRB.out.2.2.1
  have qr3 := HRB.out.2.2.2.1
  have qr4 := HRB.out.2.2.2.2
  go_upto_region 1 with fail
  clear qr0 qr1 qr2 qr3 qr4
  clear hV0
  have qr0 := HRB.out.1
  have qr1 := HRB.out.2.1
  have qr2 := HRB.out.2.2.1
  have qr3 := HRB.out.2.2.2.1
  have qr4 := HRB.out.2.2.2.2
  go_wp2_with fail
  clear qr0 qr1 qr2 qr3 qr4
  refine (head_calls _).mono ?_
  rintro e V1 ⟨rfl, g⟩
  replace HRB := Lib.hid (And.intro (World.grownBy.cell g HRB.out.1 (by simp)) (And.intro (World.grownBy.cell g HRB.out.2.1 (by simp)) (And.intro (World.grownBy.cell g HRB.out.2.2.1 (by simp)) (And.intro (World.grownBy.cell g HRB.out.2.2.2.1 (by simp)) (World.grownBy.cell g HRB.out.2.2.2.2 (by simp))))))
  replace HR := Lib.hid (HR.out.grown g)
  replace HG := Lib.hid (World.grownBy.trans HG.out g)
  clear g
  have qr0 := HRB.out.1
  have qr1 := HRB.out.2.1
  have qr2 := HRB.out.2.2.1
  have qr3 := HRB.out.2.2.2.1
  have qr4 := HRB.out.2.2.2.2
  go_upto_region 2 with fail
  clear qr0 qr1 qr2 qr3 qr4
  have qr0 := HRB.out.1
  have qr1 := HRB.out.2.1
  have qr2 := HRB.out.2.2.1
  have qr3 := HRB.out.2.2.2.1
  have qr4 := HRB.out.2.2.2.2
  go_wp2_with fail
  clear qr0 qr1 qr2 qr3 qr4
  refine (HAT.out _).mono ?_
  rintro e w2 ⟨rfl, hw2⟩
  rw [hw2]
  clear hw2 w2
  have qr0 := HRB.out.1
  have qr1 := HRB.out.2.1
  have qr2 := HRB.out.2.2.1
  have qr3 := HRB.out.2.2.2.1
  have qr4 := HRB.out.2.2.2.2
  go_upto_region 3 with fail
  clear qr0 qr1 qr2 qr3 qr4
  have qr0 := HRB.out.1
  have qr1 := HRB.out.2.1
  have qr2 := HRB.out.2.2.1
  have qr3 := HRB.out.2.2.2.1
  have qr4 := HRB.out.2.2.2.2
  go_wp2_with fail
  clear qr0 qr1 qr2 qr3 qr4
  refine (fromV (n := n) (k := 2) hn1 hn5 (by omega) HR.out.lA EL1.out ZA0.out ZL1.out _ _ _ HR.out.hA).mono ?_
  rintro e V2 ⟨xa, ya, rfl, hr, g⟩
  replace HRB := Lib.hid (And.intro (World.grownBy.cell g HRB.out.1 (by simp)) (And.intro (World.grownBy.cell g HRB.out.2.1 (by simp)) (And.intro (World.grownBy.cell g HRB.out.2.2.1 (by simp)) (And.intro (World.grownBy.cell g HRB.out.2.2.2.1 (by simp)) (World.grownBy.cell g HRB.out.2.2.2.2 (by simp))))))
  replace HR := Lib.hid (HR.out.grown g)
  replace HG := Lib.hid (World.grownBy.trans HG.out g)
  clear g
  have Ha := Lib.hid hr
  clear hr
  have qr0 := HRB.out.1
  have qr1 := HRB.out.2.1
  have qr2 := HRB.out.2.2.1
  have qr3 := HRB.out.2.2.2.1
  have qr4 := HRB.out.2.2.2.2
  go_upto_region 4 with fail
  clear qr0 qr1 qr2 qr3 qr4
  have hbx := one_cells V2 (.int .i64 2) (.slice xa lL1 ya) 27
  have g := World.grownBy_alloc V2 (.cells #[.int .i64 2, .slice xa lL1 ya] 27) none
  obtain ⟨V3, hV3⟩ : ∃ z, World.alloc V2 (.cells #[.int .i64 2, .slice xa lL1 ya] 27) = z := ⟨_, rfl⟩
  rw [hV3] at g hbx ⊢
  clear hV3
  obtain ⟨bB5, hb⟩ : ∃ b, V2.heap.size = b := ⟨_, rfl⟩
  rw [hb] at hbx ⊢
  clear hb
  replace Ha := Lib.hid (Ha.out.grown g)
  replace HRB := Lib.hid (And.intro (World.grownBy.cell g HRB.out.1 (by simp)) (And.intro (World.grownBy.cell g HRB.out.2.1 (by simp)) (And.intro (World.grownBy.cell g HRB.out.2.2.1 (by simp)) (And.intro (World.grownBy.cell g HRB.out.2.2.2.1 (by simp)) (World.grownBy.cell g HRB.out.2.2.2.2 (by simp))))))
  replace HR := Lib.hid (HR.out.grown g)
  replace HG := Lib.hid (World.grownBy.trans HG.out g)
  clear g
  have HB5 := Lib.hid (And.intro hbx.2.1 hbx.2.2.1)
  clear hbx
  have qB50 := HB5.out.1
  have qB51 := HB5.out.2
  have qr0 := HRB.out.1
  have qr1 := HRB.out.2.1
  have qr2 := HRB.out.2.2.1
  have qr3 := HRB.out.2.2.2.1
  have qr4 := HRB.out.2.2.2.2
  go_wp2_with fail
  clear qB50 qB51 qr0 qr1 qr2 qr3 qr4
  refine (fromV (n := n) (k := 2) hn1 hn5 (by omega) HR.out.lB EL2.out ZB0.out ZL2.out _ _ _ HR.out.hB).mono ?_
  rintro e V4 ⟨xb, yb, rfl, hr, g⟩
  replace Ha := Lib.hid (Ha.out.grown g)
  replace HB5 := Lib.hid (And.intro (World.grownBy.cell g HB5.out.1 (by simp)) (World.grownBy.cell g HB5.out.2 (by simp)))
  replace HRB := Lib.hid (And.intro (World.grownBy.cell g HRB.out.1 (by simp)) (And.intro (World.grownBy.cell g HRB.out.2.1 (by simp)) (And.intro (World.grownBy.cell g HRB.out.2.2.1 (by simp)) (And.intro (World.grownBy.cell g HRB.out.2.2.2.1 (by simp)) (World.grownBy.cell g HRB.out.2.2.2.2 (by simp))))))
  replace HR := Lib.hid (HR.out.grown g)
  replace HG := Lib.hid (World.grownBy.trans HG.out g)
  clear g
  have Hb := Lib.hid hr
  clear hr
  have qB50 := HB5.out.1
  have qB51 := HB5.out.2
  have qr0 := HRB.out.1
  have qr1 := HRB.out.2.1
  have qr2 := HRB.out.2.2.1
  have qr3 := HRB.out.2.2.2.1
  have qr4 := HRB.out.2.2.2.2
  go_upto_region 5 with fail
  clear qB50 qB51 qr0 qr1 qr2 qr3 qr4
  have hbx := one_cells V4 (.int .i64 2) (.slice xb lL2 yb) 27
  have g := World.grownBy_alloc V4 (.cells #[.int .i64 2, .slice xb lL2 yb] 27) none
  obtain ⟨V5, hV5⟩ : ∃ z, World.alloc V4 (.cells #[.int .i64 2, .slice xb lL2 yb] 27) = z := ⟨_, rfl⟩
  rw [hV5] at g hbx ⊢
  clear hV5
  obtain ⟨bB6, hb⟩ : ∃ b, V4.heap.size = b := ⟨_, rfl⟩
  rw [hb] at hbx ⊢
  clear hb
  replace Ha := Lib.hid (Ha.out.grown g)
  replace Hb := Lib.hid (Hb.out.grown g)
  replace HB5 := Lib.hid (And.intro (World.grownBy.cell g HB5.out.1 (by simp)) (World.grownBy.cell g HB5.out.2 (by simp)))
  replace HRB := Lib.hid (And.intro (World.grownBy.cell g HRB.out.1 (by simp)) (And.intro (World.grownBy.cell g HRB.out.2.1 (by simp)) (And.intro (World.grownBy.cell g HRB.out.2.2.1 (by simp)) (And.intro (World.grownBy.cell g HRB.out.2.2.2.1 (by simp)) (World.grownBy.cell g HRB.out.2.2.2.2 (by simp))))))
  replace HR := Lib.hid (HR.out.grown g)
  replace HG := Lib.hid (World.grownBy.trans HG.out g)
  clear g
  have HB6 := Lib.hid (And.intro hbx.2.1 hbx.2.2.1)
  clear hbx
  clear HRB HR
  have qB50 := HB5.out.1
  have qB51 := HB5.out.2
  have qB60 := HB6.out.1
  have qB61 := HB6.out.2
  go_wp2_with fail
  clear qB50 qB51 qB60 qB61
  refine (closV vL1.out hn5 (by rw [← EL1.out]; exact EL3.out) ZL1.out ZL3.out _ _ _ Ha.out).mono ?_
  rintro e V6 ⟨xr1, yr1, rfl, hr, g⟩
  replace Ha := Lib.hid (Ha.out.grown g)
  replace Hb := Lib.hid (Hb.out.grown g)
  replace HB5 := Lib.hid (And.intro (World.grownBy.cell g HB5.out.1 (by simp)) (World.grownBy.cell g HB5.out.2 (by simp)))
  replace HB6 := Lib.hid (And.intro (World.grownBy.cell g HB6.out.1 (by simp)) (World.grownBy.cell g HB6.out.2 (by simp)))
  replace HG := Lib.hid (World.grownBy.trans HG.out g)
  clear g
  have Hr1 := Lib.hid hr
  clear hr
  have qB50 := HB5.out.1
  have qB51 := HB5.out.2
  have qB60 := HB6.out.1
  have qB61 := HB6.out.2
  go_upto_region 6 with fail
  clear qB50 qB51 qB60 qB61
  have hbx := one_cells V6 (.int .i64 2) (.slice xr1 lL3 yr1) 27
  have g := World.grownBy_alloc V6 (.cells #[.int .i64 2, .slice xr1 lL3 yr1] 27) none
  obtain ⟨V7, hV7⟩ : ∃ z, World.alloc V6 (.cells #[.int .i64 2, .slice xr1 lL3 yr1] 27) = z := ⟨_, rfl⟩
  rw [hV7] at g hbx ⊢
  clear hV7
  obtain ⟨bB7, hb⟩ : ∃ b, V6.heap.size = b := ⟨_, rfl⟩
  rw [hb] at hbx ⊢
  clear hb
  replace Ha := Lib.hid (Ha.out.grown g)
  replace Hb := Lib.hid (Hb.out.grown g)
  replace Hr1 := Lib.hid (Hr1.out.grown g)
  replace HB5 := Lib.hid (And.intro (World.grownBy.cell g HB5.out.1 (by simp)) (World.grownBy.cell g HB5.out.2 (by simp)))
  replace HB6 := Lib.hid (And.intro (World.grownBy.cell g HB6.out.1 (by simp)) (World.grownBy.cell g HB6.out.2 (by simp)))
  replace HG := Lib.hid (World.grownBy.trans HG.out g)
  clear g
  have HB7 := Lib.hid (And.intro hbx.2.1 hbx.2.2.1)
  clear hbx
  have qB50 := HB5.out.1
  have qB51 := HB5.out.2
  have qB60 := HB6.out.1
  have qB61 := HB6.out.2
  have qB70 := HB7.out.1
  have qB71 := HB7.out.2
  go_wp2_with fail
  clear qB50 qB51 qB60 qB61 qB70 qB71
  refine (joinV (k := 2) (j := 2) 2 (by omega) vL3.out vL3.out hn1 hn5 (by omega) (by omega) (by omega) (by omega) (by omega) (by omega) (by rw [← EL3.out]; exact EL4.out) ZL3.out ZL3.out ZL4.out _ _ _ _ _ Hr1.out Hr1.out).mono ?_
  rintro e V8 ⟨xr2, yr2, rfl, hr, g⟩
  replace Ha := Lib.hid (Ha.out.grown g)
  replace Hb := Lib.hid (Hb.out.grown g)
  replace Hr1 := Lib.hid (Hr1.out.grown g)
  replace HB5 := Lib.hid (And.intro (World.grownBy.cell g HB5.out.1 (by simp)) (World.grownBy.cell g HB5.out.2 (by simp)))
  replace HB6 := Lib.hid (And.intro (World.grownBy.cell g HB6.out.1 (by simp)) (World.grownBy.cell g HB6.out.2 (by simp)))
  replace HB7 := Lib.hid (And.intro (World.grownBy.cell g HB7.out.1 (by simp)) (World.grownBy.cell g HB7.out.2 (by simp)))
  replace HG := Lib.hid (World.grownBy.trans HG.out g)
  clear g
  have Hr2 := Lib.hid hr
  clear hr
  have qB50 := HB5.out.1
  have qB51 := HB5.out.2
  have qB60 := HB6.out.1
  have qB61 := HB6.out.2
  have qB70 := HB7.out.1
  have qB71 := HB7.out.2
  go_upto_region 7 with fail
  clear qB50 qB51 qB60 qB61 qB70 qB71
  have hbx := one_cells V8 (.int .i64 2) (.slice xr2 lL4 yr2) 27
  have g := World.grownBy_alloc V8 (.cells #[.int .i64 2, .slice xr2 lL4 yr2] 27) none
  obtain ⟨V9, hV9⟩ : ∃ z, World.alloc V8 (.cells #[.int .i64 2, .slice xr2 lL4 yr2] 27) = z := ⟨_, rfl⟩
  rw [hV9] at g hbx ⊢
  clear hV9
  obtain ⟨bB8, hb⟩ : ∃ b, V8.heap.size = b := ⟨_, rfl⟩
  rw [hb] at hbx ⊢
  clear hb
  replace Ha := Lib.hid (Ha.out.grown g)
  replace Hb := Lib.hid (Hb.out.grown g)
  replace Hr1 := Lib.hid (Hr1.out.grown g)
  replace Hr2 := Lib.hid (Hr2.out.grown g)
  replace HB5 := Lib.hid (And.intro (World.grownBy.cell g HB5.out.1 (by simp)) (World.grownBy.cell g HB5.out.2 (by simp)))
  replace HB6 := Lib.hid (And.intro (World.grownBy.cell g HB6.out.1 (by simp)) (World.grownBy.cell g HB6.out.2 (by simp)))
  replace HB7 := Lib.hid (And.intro (World.grownBy.cell g HB7.out.1 (by simp)) (World.grownBy.cell g HB7.out.2 (by simp)))
  replace HG := Lib.hid (World.grownBy.trans HG.out g)
  clear g
  have HB8 := Lib.hid (And.intro hbx.2.1 hbx.2.2.1)
  clear hbx
  have qB50 := HB5.out.1
  have qB51 := HB5.out.2
  have qB60 := HB6.out.1
  have qB61 := HB6.out.2
  have qB70 := HB7.out.1
  have qB71 := HB7.out.2
  have qB80 := HB8.out.1
  have qB81 := HB8.out.2
  go_wp2_with fail
  clear qB50 qB51 qB60 qB61 qB70 qB71 qB80 qB81
  refine (unionV (2 : Nat) (2 : Nat) vL1.out vL2.out hn5 (by omega) (by rw [← EL1.out, ← EL2.out]; exact EL5.out) ZL1.out ZL2.out ZL5.out _ _ _ _ _ Ha.out Hb.out).mono ?_
  rintro e V10 ⟨xr3, yr3, rfl, hr, g⟩
  replace Ha := Lib.hid (Ha.out.grown g)
  replace Hb := Lib.hid (Hb.out.grown g)
  replace Hr1 := Lib.hid (Hr1.out.grown g)
  replace Hr2 := Lib.hid (Hr2.out.grown g)
  replace HB5 := Lib.hid (And.intro (World.grownBy.cell g HB5.out.1 (by simp)) (World.grownBy.cell g HB5.out.2 (by simp)))
  replace HB6 := Lib.hid (And.intro (World.grownBy.cell g HB6.out.1 (by simp)) (World.grownBy.cell g HB6.out.2 (by simp)))
  replace HB7 := Lib.hid (And.intro (World.grownBy.cell g HB7.out.1 (by simp)) (World.grownBy.cell g HB7.out.2 (by simp)))
  replace HB8 := Lib.hid (And.intro (World.grownBy.cell g HB8.out.1 (by simp)) (World.grownBy.cell g HB8.out.2 (by simp)))
  replace HG := Lib.hid (World.grownBy.trans HG.out g)
  clear g
  have Hr3 := Lib.hid hr
  clear hr
  have qB50 := HB5.out.1
  have qB51 := HB5.out.2
  have qB60 := HB6.out.1
  have qB61 := HB6.out.2
  have qB70 := HB7.out.1
  have qB71 := HB7.out.2
  have qB80 := HB8.out.1
  have qB81 := HB8.out.2
  go_wp2_with fail
  clear qB50 qB51 qB60 qB61 qB70 qB71 qB80 qB81
  refine (closV vL5.out hn5 (by rw [← EL5.out]; exact EL6.out) ZL5.out ZL6.out _ _ _ Hr3.out).mono ?_
  rintro e V11 ⟨xr4, yr4, rfl, hr, g⟩
  replace Ha := Lib.hid (Ha.out.grown g)
  replace Hb := Lib.hid (Hb.out.grown g)
  replace Hr1 := Lib.hid (Hr1.out.grown g)
  replace Hr2 := Lib.hid (Hr2.out.grown g)
  replace Hr3 := Lib.hid (Hr3.out.grown g)
  replace HB5 := Lib.hid (And.intro (World.grownBy.cell g HB5.out.1 (by simp)) (World.grownBy.cell g HB5.out.2 (by simp)))
  replace HB6 := Lib.hid (And.intro (World.grownBy.cell g HB6.out.1 (by simp)) (World.grownBy.cell g HB6.out.2 (by simp)))
  replace HB7 := Lib.hid (And.intro (World.grownBy.cell g HB7.out.1 (by simp)) (World.grownBy.cell g HB7.out.2 (by simp)))
  replace HB8 := Lib.hid (And.intro (World.grownBy.cell g HB8.out.1 (by simp)) (World.grownBy.cell g HB8.out.2 (by simp)))
  replace HG := Lib.hid (World.grownBy.trans HG.out g)
  clear g
  have Hr4 := Lib.hid hr
  clear hr
  have qB50 := HB5.out.1
  have qB51 := HB5.out.2
  have qB60 := HB6.out.1
  have qB61 := HB6.out.2
  have qB70 := HB7.out.1
  have qB71 := HB7.out.2
  have qB80 := HB8.out.1
  have qB81 := HB8.out.2
  go_upto_region 8 with fail
  clear qB50 qB51 qB60 qB61 qB70 qB71 qB80 qB81
  have hbx := one_cells V11 (.int .i64 2) (.slice xr4 lL6 yr4) 27
  have g := World.grownBy_alloc V11 (.cells #[.int .i64 2, .slice xr4 lL6 yr4] 27) none
  obtain ⟨V12, hV12⟩ : ∃ z, World.alloc V11 (.cells #[.int .i64 2, .slice xr4 lL6 yr4] 27) = z := ⟨_, rfl⟩
  rw [hV12] at g hbx ⊢
  clear hV12
  obtain ⟨bB10, hb⟩ : ∃ b, V11.heap.size = b := ⟨_, rfl⟩
  rw [hb] at hbx ⊢
  clear hb
  replace Ha := Lib.hid (Ha.out.grown g)
  replace Hb := Lib.hid (Hb.out.grown g)
  replace Hr1 := Lib.hid (Hr1.out.grown g)
  replace Hr2 := Lib.hid (Hr2.out.grown g)
  replace Hr3 := Lib.hid (Hr3.out.grown g)
  replace Hr4 := Lib.hid (Hr4.out.grown g)
  replace HB5 := Lib.hid (And.intro (World.grownBy.cell g HB5.out.1 (by simp)) (World.grownBy.cell g HB5.out.2 (by simp)))
  replace HB6 := Lib.hid (And.intro (World.grownBy.cell g HB6.out.1 (by simp)) (World.grownBy.cell g HB6.out.2 (by simp)))
  replace HB7 := Lib.hid (And.intro (World.grownBy.cell g HB7.out.1 (by simp)) (World.grownBy.cell g HB7.out.2 (by simp)))
  replace HB8 := Lib.hid (And.intro (World.grownBy.cell g HB8.out.1 (by simp)) (World.grownBy.cell g HB8.out.2 (by simp)))
  replace HG := Lib.hid (World.grownBy.trans HG.out g)
  clear g
  have HB10 := Lib.hid (And.intro hbx.2.1 hbx.2.2.1)
  clear hbx
  have qB50 := HB5.out.1
  have qB51 := HB5.out.2
  have qB60 := HB6.out.1
  have qB61 := HB6.out.2
  have qB70 := HB7.out.1
  have qB71 := HB7.out.2
  have qB80 := HB8.out.1
  have qB81 := HB8.out.2
  have qB100 := HB10.out.1
  have qB101 := HB10.out.2
  go_wp2_with fail
  clear qB50 qB51 qB60 qB61 qB70 qB71 qB80 qB81 qB100 qB101
  refine (unionV (2 : Nat) (2 : Nat) vL1.out vL2.out hn5 (by omega) (by rw [← EL1.out, ← EL2.out]; exact EL5.out) ZL1.out ZL2.out ZL5.out _ _ _ _ _ Ha.out Hb.out).mono ?_
  rintro e V13 ⟨xr5, yr5, rfl, hr, g⟩
  replace Ha := Lib.hid (Ha.out.grown g)
  replace Hb := Lib.hid (Hb.out.grown g)
  replace Hr1 := Lib.hid (Hr1.out.grown g)
  replace Hr2 := Lib.hid (Hr2.out.grown g)
  replace Hr3 := Lib.hid (Hr3.out.grown g)
  replace Hr4 := Lib.hid (Hr4.out.grown g)
  replace HB5 := Lib.hid (And.intro (World.grownBy.cell g HB5.out.1 (by simp)) (World.grownBy.cell g HB5.out.2 (by simp)))
  replace HB6 := Lib.hid (And.intro (World.grownBy.cell g HB6.out.1 (by simp)) (World.grownBy.cell g HB6.out.2 (by simp)))
  replace HB7 := Lib.hid (And.intro (World.grownBy.cell g HB7.out.1 (by simp)) (World.grownBy.cell g HB7.out.2 (by simp)))
  replace HB8 := Lib.hid (And.intro (World.grownBy.cell g HB8.out.1 (by simp)) (World.grownBy.cell g HB8.out.2 (by simp)))
  replace HB10 := Lib.hid (And.intro (World.grownBy.cell g HB10.out.1 (by simp)) (World.grownBy.cell g HB10.out.2 (by simp)))
  replace HG := Lib.hid (World.grownBy.trans HG.out g)
  clear g
  have Hr5 := Lib.hid hr
  clear hr
  have qB50 := HB5.out.1
  have qB51 := HB5.out.2
  have qB60 := HB6.out.1
  have qB61 := HB6.out.2
  have qB70 := HB7.out.1
  have qB71 := HB7.out.2
  have qB80 := HB8.out.1
  have qB81 := HB8.out.2
  have qB100 := HB10.out.1
  have qB101 := HB10.out.2
  go_upto_region 9 with fail
  clear qB50 qB51 qB60 qB61 qB70 qB71 qB80 qB81 qB100 qB101
  have hbx := one_cells V13 (.int .i64 2) (.slice xr5 lL5 yr5) 27
  have g := World.grownBy_alloc V13 (.cells #[.int .i64 2, .slice xr5 lL5 yr5] 27) none
  obtain ⟨V14, hV14⟩ : ∃ z, World.alloc V13 (.cells #[.int .i64 2, .slice xr5 lL5 yr5] 27) = z := ⟨_, rfl⟩
  rw [hV14] at g hbx ⊢
  clear hV14
  obtain ⟨bB11, hb⟩ : ∃ b, V13.heap.size = b := ⟨_, rfl⟩
  rw [hb] at hbx ⊢
  clear hb
  replace Ha := Lib.hid (Ha.out.grown g)
  replace Hb := Lib.hid (Hb.out.grown g)
  replace Hr1 := Lib.hid (Hr1.out.grown g)
  replace Hr2 := Lib.hid (Hr2.out.grown g)
  replace Hr3 := Lib.hid (Hr3.out.grown g)
  replace Hr4 := Lib.hid (Hr4.out.grown g)
  replace Hr5 := Lib.hid (Hr5.out.grown g)
  replace HB5 := Lib.hid (And.intro (World.grownBy.cell g HB5.out.1 (by simp)) (World.grownBy.cell g HB5.out.2 (by simp)))
  replace HB6 := Lib.hid (And.intro (World.grownBy.cell g HB6.out.1 (by simp)) (World.grownBy.cell g HB6.out.2 (by simp)))
  replace HB7 := Lib.hid (And.intro (World.grownBy.cell g HB7.out.1 (by simp)) (World.grownBy.cell g HB7.out.2 (by simp)))
  replace HB8 := Lib.hid (And.intro (World.grownBy.cell g HB8.out.1 (by simp)) (World.grownBy.cell g HB8.out.2 (by simp)))
  replace HB10 := Lib.hid (And.intro (World.grownBy.cell g HB10.out.1 (by simp)) (World.grownBy.cell g HB10.out.2 (by simp)))
  replace HG := Lib.hid (World.grownBy.trans HG.out g)
  clear g
  have HB11 := Lib.hid (And.intro hbx.2.1 hbx.2.2.1)
  clear hbx
  have qB50 := HB5.out.1
  have qB51 := HB5.out.2
  have qB60 := HB6.out.1
  have qB61 := HB6.out.2
  have qB70 := HB7.out.1
  have qB71 := HB7.out.2
  have qB80 := HB8.out.1
  have qB81 := HB8.out.2
  have qB100 := HB10.out.1
  have qB101 := HB10.out.2
  have qB110 := HB11.out.1
  have qB111 := HB11.out.2
  go_wp2_with fail
  clear qB50 qB51 qB60 qB61 qB70 qB71 qB80 qB81 qB100 qB101 qB110 qB111
  refine (joinV (k := 2) (j := 2) 2 (by omega) vL5.out vL5.out hn1 hn5 (by omega) (by omega) (by omega) (by omega) (by omega) (by omega) (by rw [← EL5.out]; exact EL7.out) ZL5.out ZL5.out ZL7.out _ _ _ _ _ Hr5.out Hr5.out).mono ?_
  rintro e V15 ⟨xr6, yr6, rfl, hr, g⟩
  replace Ha := Lib.hid (Ha.out.grown g)
  replace Hb := Lib.hid (Hb.out.grown g)
  replace Hr1 := Lib.hid (Hr1.out.grown g)
  replace Hr2 := Lib.hid (Hr2.out.grown g)
  replace Hr3 := Lib.hid (Hr3.out.grown g)
  replace Hr4 := Lib.hid (Hr4.out.grown g)
  replace Hr5 := Lib.hid (Hr5.out.grown g)
  replace HB5 := Lib.hid (And.intro (World.grownBy.cell g HB5.out.1 (by simp)) (World.grownBy.cell g HB5.out.2 (by simp)))
  replace HB6 := Lib.hid (And.intro (World.grownBy.cell g HB6.out.1 (by simp)) (World.grownBy.cell g HB6.out.2 (by simp)))
  replace HB7 := Lib.hid (And.intro (World.grownBy.cell g HB7.out.1 (by simp)) (World.grownBy.cell g HB7.out.2 (by simp)))
  replace HB8 := Lib.hid (And.intro (World.grownBy.cell g HB8.out.1 (by simp)) (World.grownBy.cell g HB8.out.2 (by simp)))
  replace HB10 := Lib.hid (And.intro (World.grownBy.cell g HB10.out.1 (by simp)) (World.grownBy.cell g HB10.out.2 (by simp)))
  replace HB11 := Lib.hid (And.intro (World.grownBy.cell g HB11.out.1 (by simp)) (World.grownBy.cell g HB11.out.2 (by simp)))
  replace HG := Lib.hid (World.grownBy.trans HG.out g)
  clear g
  have Hr6 := Lib.hid hr
  clear hr
  have qB50 := HB5.out.1
  have qB51 := HB5.out.2
  have qB60 := HB6.out.1
  have qB61 := HB6.out.2
  have qB70 := HB7.out.1
  have qB71 := HB7.out.2
  have qB80 := HB8.out.1
  have qB81 := HB8.out.2
  have qB100 := HB10.out.1
  have qB101 := HB10.out.2
  have qB110 := HB11.out.1
  have qB111 := HB11.out.2
  go_upto_region 10 with fail
  clear qB50 qB51 qB60 qB61 qB70 qB71 qB80 qB81 qB100 qB101 qB110 qB111
  have hbx := one_cells V15 (.int .i64 2) (.slice xr6 lL7 yr6) 27
  have g := World.grownBy_alloc V15 (.cells #[.int .i64 2, .slice xr6 lL7 yr6] 27) none
  obtain ⟨V16, hV16⟩ : ∃ z, World.alloc V15 (.cells #[.int .i64 2, .slice xr6 lL7 yr6] 27) = z := ⟨_, rfl⟩
  rw [hV16] at g hbx ⊢
  clear hV16
  obtain ⟨bB12, hb⟩ : ∃ b, V15.heap.size = b := ⟨_, rfl⟩
  rw [hb] at hbx ⊢
  clear hb
  replace Ha := Lib.hid (Ha.out.grown g)
  replace Hb := Lib.hid (Hb.out.grown g)
  replace Hr1 := Lib.hid (Hr1.out.grown g)
  replace Hr2 := Lib.hid (Hr2.out.grown g)
  replace Hr3 := Lib.hid (Hr3.out.grown g)
  replace Hr4 := Lib.hid (Hr4.out.grown g)
  replace Hr5 := Lib.hid (Hr5.out.grown g)
  replace Hr6 := Lib.hid (Hr6.out.grown g)
  replace HB5 := Lib.hid (And.intro (World.grownBy.cell g HB5.out.1 (by simp)) (World.grownBy.cell g HB5.out.2 (by simp)))
  replace HB6 := Lib.hid (And.intro (World.grownBy.cell g HB6.out.1 (by simp)) (World.grownBy.cell g HB6.out.2 (by simp)))
  replace HB7 := Lib.hid (And.intro (World.grownBy.cell g HB7.out.1 (by simp)) (World.grownBy.cell g HB7.out.2 (by simp)))
  replace HB8 := Lib.hid (And.intro (World.grownBy.cell g HB8.out.1 (by simp)) (World.grownBy.cell g HB8.out.2 (by simp)))
  replace HB10 := Lib.hid (And.intro (World.grownBy.cell g HB10.out.1 (by simp)) (World.grownBy.cell g HB10.out.2 (by simp)))
  replace HB11 := Lib.hid (And.intro (World.grownBy.cell g HB11.out.1 (by simp)) (World.grownBy.cell g HB11.out.2 (by simp)))
  replace HG := Lib.hid (World.grownBy.trans HG.out g)
  clear g
  have HB12 := Lib.hid (And.intro hbx.2.1 hbx.2.2.1)
  clear hbx
  have qB50 := HB5.out.1
  have qB51 := HB5.out.2
  have qB60 := HB6.out.1
  have qB61 := HB6.out.2
  have qB70 := HB7.out.1
  have qB71 := HB7.out.2
  have qB80 := HB8.out.1
  have qB81 := HB8.out.2
  have qB100 := HB10.out.1
  have qB101 := HB10.out.2
  have qB110 := HB11.out.1
  have qB111 := HB11.out.2
  have qB120 := HB12.out.1
  have qB121 := HB12.out.2
  go_wp2_with fail
  clear qB50 qB51 qB60 qB61 qB70 qB71 qB80 qB81 qB100 qB101 qB110 qB111 qB120 qB121
  refine (inV (k := 2) (Q := true) (2 : Nat) (2 : Nat) vL1.out vL3.out hn5 (by omega) (decide_eq_true Q7.out) ZL1.out ZL3.out _ _ _ _ _ Ha.out Hr1.out).mono ?_
  rintro e V17 ⟨rfl, g⟩
  replace Ha := Lib.hid (Ha.out.grown g)
  replace Hb := Lib.hid (Hb.out.grown g)
  replace Hr1 := Lib.hid (Hr1.out.grown g)
  replace Hr2 := Lib.hid (Hr2.out.grown g)
  replace Hr3 := Lib.hid (Hr3.out.grown g)
  replace Hr4 := Lib.hid (Hr4.out.grown g)
  replace Hr5 := Lib.hid (Hr5.out.grown g)
  replace Hr6 := Lib.hid (Hr6.out.grown g)
  replace HB5 := Lib.hid (And.intro (World.grownBy.cell g HB5.out.1 (by simp)) (World.grownBy.cell g HB5.out.2 (by simp)))
  replace HB6 := Lib.hid (And.intro (World.grownBy.cell g HB6.out.1 (by simp)) (World.grownBy.cell g HB6.out.2 (by simp)))
  replace HB7 := Lib.hid (And.intro (World.grownBy.cell g HB7.out.1 (by simp)) (World.grownBy.cell g HB7.out.2 (by simp)))
  replace HB8 := Lib.hid (And.intro (World.grownBy.cell g HB8.out.1 (by simp)) (World.grownBy.cell g HB8.out.2 (by simp)))
  replace HB10 := Lib.hid (And.intro (World.grownBy.cell g HB10.out.1 (by simp)) (World.grownBy.cell g HB10.out.2 (by simp)))
  replace HB11 := Lib.hid (And.intro (World.grownBy.cell g HB11.out.1 (by simp)) (World.grownBy.cell g HB11.out.2 (by simp)))
  replace HB12 := Lib.hid (And.intro (World.grownBy.cell g HB12.out.1 (by simp)) (World.grownBy.cell g HB12.out.2 (by simp)))
  replace HG := Lib.hid (World.grownBy.trans HG.out g)
  clear g
  have qB50 := HB5.out.1
  have qB51 := HB5.out.2
  have qB60 := HB6.out.1
  have qB61 := HB6.out.2
  have qB70 := HB7.out.1
  have qB71 := HB7.out.2
  have qB80 := HB8.out.1
  have qB81 := HB8.out.2
  have qB100 := HB10.out.1
  have qB101 := HB10.out.2
  have qB110 := HB11.out.1
  have qB111 := HB11.out.2
  have qB120 := HB12.out.1
  have qB121 := HB12.out.2
  go_wp2_with fail
  clear qB50 qB51 qB60 qB61 qB70 qB71 qB80 qB81 qB100 qB101 qB110 qB111 qB120 qB121
  refine (inV (k := 2) (Q := true) (2 : Nat) (2 : Nat) vL4.out vL3.out hn5 (by omega) (decide_eq_true Q8.out) ZL4.out ZL3.out _ _ _ _ _ Hr2.out Hr1.out).mono ?_
  rintro e V18 ⟨rfl, g⟩
  replace Ha := Lib.hid (Ha.out.grown g)
  replace Hb := Lib.hid (Hb.out.grown g)
  replace Hr1 := Lib.hid (Hr1.out.grown g)
  replace Hr2 := Lib.hid (Hr2.out.grown g)
  replace Hr3 := Lib.hid (Hr3.out.grown g)
  replace Hr4 := Lib.hid (Hr4.out.grown g)
  replace Hr5 := Lib.hid (Hr5.out.grown g)
  replace Hr6 := Lib.hid (Hr6.out.grown g)
  replace HB5 := Lib.hid (And.intro (World.grownBy.cell g HB5.out.1 (by simp)) (World.grownBy.cell g HB5.out.2 (by simp)))
  replace HB6 := Lib.hid (And.intro (World.grownBy.cell g HB6.out.1 (by simp)) (World.grownBy.cell g HB6.out.2 (by simp)))
  replace HB7 := Lib.hid (And.intro (World.grownBy.cell g HB7.out.1 (by simp)) (World.grownBy.cell g HB7.out.2 (by simp)))
  replace HB8 := Lib.hid (And.intro (World.grownBy.cell g HB8.out.1 (by simp)) (World.grownBy.cell g HB8.out.2 (by simp)))
  replace HB10 := Lib.hid (And.intro (World.grownBy.cell g HB10.out.1 (by simp)) (World.grownBy.cell g HB10.out.2 (by simp)))
  replace HB11 := Lib.hid (And.intro (World.grownBy.cell g HB11.out.1 (by simp)) (World.grownBy.cell g HB11.out.2 (by simp)))
  replace HB12 := Lib.hid (And.intro (World.grownBy.cell g HB12.out.1 (by simp)) (World.grownBy.cell g HB12.out.2 (by simp)))
  replace HG := Lib.hid (World.grownBy.trans HG.out g)
  clear g
  have qB50 := HB5.out.1
  have qB51 := HB5.out.2
  have qB60 := HB6.out.1
  have qB61 := HB6.out.2
  have qB70 := HB7.out.1
  have qB71 := HB7.out.2
  have qB80 := HB8.out.1
  have qB81 := HB8.out.2
  have qB100 := HB10.out.1
  have qB101 := HB10.out.2
  have qB110 := HB11.out.1
  have qB111 := HB11.out.2
  have qB120 := HB12.out.1
  have qB121 := HB12.out.2
  go_wp2_with fail
  clear qB50 qB51 qB60 qB61 qB70 qB71 qB80 qB81 qB100 qB101 qB110 qB111 qB120 qB121
  refine (inV (k := 2) (Q := true) (2 : Nat) (2 : Nat) vL3.out vL6.out hn5 (by omega) (decide_eq_true Q9.out) ZL3.out ZL6.out _ _ _ _ _ Hr1.out Hr4.out).mono ?_
  rintro e V19 ⟨rfl, g⟩
  replace Ha := Lib.hid (Ha.out.grown g)
  replace Hb := Lib.hid (Hb.out.grown g)
  replace Hr1 := Lib.hid (Hr1.out.grown g)
  replace Hr2 := Lib.hid (Hr2.out.grown g)
  replace Hr3 := Lib.hid (Hr3.out.grown g)
  replace Hr4 := Lib.hid (Hr4.out.grown g)
  replace Hr5 := Lib.hid (Hr5.out.grown g)
  replace Hr6 := Lib.hid (Hr6.out.grown g)
  replace HB5 := Lib.hid (And.intro (World.grownBy.cell g HB5.out.1 (by simp)) (World.grownBy.cell g HB5.out.2 (by simp)))
  replace HB6 := Lib.hid (And.intro (World.grownBy.cell g HB6.out.1 (by simp)) (World.grownBy.cell g HB6.out.2 (by simp)))
  replace HB7 := Lib.hid (And.intro (World.grownBy.cell g HB7.out.1 (by simp)) (World.grownBy.cell g HB7.out.2 (by simp)))
  replace HB8 := Lib.hid (And.intro (World.grownBy.cell g HB8.out.1 (by simp)) (World.grownBy.cell g HB8.out.2 (by simp)))
  replace HB10 := Lib.hid (And.intro (World.grownBy.cell g HB10.out.1 (by simp)) (World.grownBy.cell g HB10.out.2 (by simp)))
  replace HB11 := Lib.hid (And.intro (World.grownBy.cell g HB11.out.1 (by simp)) (World.grownBy.cell g HB11.out.2 (by simp)))
  replace HB12 := Lib.hid (And.intro (World.grownBy.cell g HB12.out.1 (by simp)) (World.grownBy.cell g HB12.out.2 (by simp)))
  replace HG := Lib.hid (World.grownBy.trans HG.out g)
  clear g
  have qB50 := HB5.out.1
  have qB51 := HB5.out.2
  have qB60 := HB6.out.1
  have qB61 := HB6.out.2
  have qB70 := HB7.out.1
  have qB71 := HB7.out.2
  have qB80 := HB8.out.1
  have qB81 := HB8.out.2
  have qB100 := HB10.out.1
  have qB101 := HB10.out.2
  have qB110 := HB11.out.1
  have qB111 := HB11.out.2
  have qB120 := HB12.out.1
  have qB121 := HB12.out.2
  go_upto_region 12 with fail
  clear qB50 qB51 qB60 qB61 qB70 qB71 qB80 qB81 qB100 qB101 qB110 qB111 qB120 qB121
  have qB50 := HB5.out.1
  have qB51 := HB5.out.2
  have qB60 := HB6.out.1
  have qB61 := HB6.out.2
  have qB70 := HB7.out.1
  have qB71 := HB7.out.2
  have qB80 := HB8.out.1
  have qB81 := HB8.out.2
  have qB100 := HB10.out.1
  have qB101 := HB10.out.2
  have qB110 := HB11.out.1
  have qB111 := HB11.out.2
  have qB120 := HB12.out.1
  have qB121 := HB12.out.2
  go_wp2_with fail
  clear qB50 qB51 qB60 qB61 qB70 qB71 qB80 qB81 qB100 qB101 qB110 qB111 qB120 qB121
  refine (inV (k := 2) (Q := false) (2 : Nat) (2 : Nat) vL7.out vL5.out hn5 (by omega) (decide_eq_false Q10.out) ZL7.out ZL5.out _ _ _ _ _ Hr6.out Hr5.out).mono ?_
  rintro e V20 ⟨rfl, g⟩
  replace Ha := Lib.hid (Ha.out.grown g)
  replace Hb := Lib.hid (Hb.out.grown g)
  replace Hr1 := Lib.hid (Hr1.out.grown g)
  replace Hr2 := Lib.hid (Hr2.out.grown g)
  replace Hr3 := Lib.hid (Hr3.out.grown g)
  replace Hr4 := Lib.hid (Hr4.out.grown g)
  replace Hr5 := Lib.hid (Hr5.out.grown g)
  replace Hr6 := Lib.hid (Hr6.out.grown g)
  replace HB5 := Lib.hid (And.intro (World.grownBy.cell g HB5.out.1 (by simp)) (World.grownBy.cell g HB5.out.2 (by simp)))
  replace HB6 := Lib.hid (And.intro (World.grownBy.cell g HB6.out.1 (by simp)) (World.grownBy.cell g HB6.out.2 (by simp)))
  replace HB7 := Lib.hid (And.intro (World.grownBy.cell g HB7.out.1 (by simp)) (World.grownBy.cell g HB7.out.2 (by simp)))
  replace HB8 := Lib.hid (And.intro (World.grownBy.cell g HB8.out.1 (by simp)) (World.grownBy.cell g HB8.out.2 (by simp)))
  replace HB10 := Lib.hid (And.intro (World.grownBy.cell g HB10.out.1 (by simp)) (World.grownBy.cell g HB10.out.2 (by simp)))
  replace HB11 := Lib.hid (And.intro (World.grownBy.cell g HB11.out.1 (by simp)) (World.grownBy.cell g HB11.out.2 (by simp)))
  replace HB12 := Lib.hid (And.intro (World.grownBy.cell g HB12.out.1 (by simp)) (World.grownBy.cell g HB12.out.2 (by simp)))
  replace HG := Lib.hid (World.grownBy.trans HG.out g)
  clear g
  have qB50 := HB5.out.1
  have qB51 := HB5.out.2
  have qB60 := HB6.out.1
  have qB61 := HB6.out.2
  have qB70 := HB7.out.1
  have qB71 := HB7.out.2
  have qB80 := HB8.out.1
  have qB81 := HB8.out.2
  have qB100 := HB10.out.1
  have qB101 := HB10.out.2
  have qB110 := HB11.out.1
  have qB111 := HB11.out.2
  have qB120 := HB12.out.1
  have qB121 := HB12.out.2
  go_upto_region 14 with fail
  clear qB50 qB51 qB60 qB61 qB70 qB71 qB80 qB81 qB100 qB101 qB110 qB111 qB120 qB121
  have qB50 := HB5.out.1
  have qB51 := HB5.out.2
  have qB60 := HB6.out.1
  have qB61 := HB6.out.2
  have qB70 := HB7.out.1
  have qB71 := HB7.out.2
  have qB80 := HB8.out.1
  have qB81 := HB8.out.2
  have qB100 := HB10.out.1
  have qB101 := HB10.out.2
  have qB110 := HB11.out.1
  have qB111 := HB11.out.2
  have qB120 := HB12.out.1
  have qB121 := HB12.out.2
  go_wp2_with fail
  clear qB50 qB51 qB60 qB61 qB70 qB71 qB80 qB81 qB100 qB101 qB110 qB111 qB120 qB121
  refine (joinV (k := 2) (j := 2) 2 (by omega) vL1.out vL3.out hn1 hn5 (by omega) (by omega) (by omega) (by omega) (by omega) (by omega) (by rw [← EL1.out, ← EL3.out]; exact EL8.out) ZL1.out ZL3.out ZL8.out _ _ _ _ _ Ha.out Hr1.out).mono ?_
  rintro e V21 ⟨xr11, yr11, rfl, hr, g⟩
  replace Ha := Lib.hid (Ha.out.grown g)
  replace Hb := Lib.hid (Hb.out.grown g)
  replace Hr1 := Lib.hid (Hr1.out.grown g)
  replace Hr2 := Lib.hid (Hr2.out.grown g)
  replace Hr3 := Lib.hid (Hr3.out.grown g)
  replace Hr4 := Lib.hid (Hr4.out.grown g)
  replace Hr5 := Lib.hid (Hr5.out.grown g)
  replace Hr6 := Lib.hid (Hr6.out.grown g)
  replace HB5 := Lib.hid (And.intro (World.grownBy.cell g HB5.out.1 (by simp)) (World.grownBy.cell g HB5.out.2 (by simp)))
  replace HB6 := Lib.hid (And.intro (World.grownBy.cell g HB6.out.1 (by simp)) (World.grownBy.cell g HB6.out.2 (by simp)))
  replace HB7 := Lib.hid (And.intro (World.grownBy.cell g HB7.out.1 (by simp)) (World.grownBy.cell g HB7.out.2 (by simp)))
  replace HB8 := Lib.hid (And.intro (World.grownBy.cell g HB8.out.1 (by simp)) (World.grownBy.cell g HB8.out.2 (by simp)))
  replace HB10 := Lib.hid (And.intro (World.grownBy.cell g HB10.out.1 (by simp)) (World.grownBy.cell g HB10.out.2 (by simp)))
  replace HB11 := Lib.hid (And.intro (World.grownBy.cell g HB11.out.1 (by simp)) (World.grownBy.cell g HB11.out.2 (by simp)))
  replace HB12 := Lib.hid (And.intro (World.grownBy.cell g HB12.out.1 (by simp)) (World.grownBy.cell g HB12.out.2 (by simp)))
  replace HG := Lib.hid (World.grownBy.trans HG.out g)
  clear g
  have Hr11 := Lib.hid hr
  clear hr
  have qB50 := HB5.out.1
  have qB51 := HB5.out.2
  have qB60 := HB6.out.1
  have qB61 := HB6.out.2
  have qB70 := HB7.out.1
  have qB71 := HB7.out.2
  have qB80 := HB8.out.1
  have qB81 := HB8.out.2
  have qB100 := HB10.out.1
  have qB101 := HB10.out.2
  have qB110 := HB11.out.1
  have qB111 := HB11.out.2
  have qB120 := HB12.out.1
  have qB121 := HB12.out.2
  go_upto_region 15 with fail
  clear qB50 qB51 qB60 qB61 qB70 qB71 qB80 qB81 qB100 qB101 qB110 qB111 qB120 qB121
  have hbx := one_cells V21 (.int .i64 2) (.slice xr11 lL8 yr11) 27
  have g := World.grownBy_alloc V21 (.cells #[.int .i64 2, .slice xr11 lL8 yr11] 27) none
  obtain ⟨V22, hV22⟩ : ∃ z, World.alloc V21 (.cells #[.int .i64 2, .slice xr11 lL8 yr11] 27) = z := ⟨_, rfl⟩
  rw [hV22] at g hbx ⊢
  clear hV22
  obtain ⟨bB14, hb⟩ : ∃ b, V21.heap.size = b := ⟨_, rfl⟩
  rw [hb] at hbx ⊢
  clear hb
  replace Ha := Lib.hid (Ha.out.grown g)
  replace Hb := Lib.hid (Hb.out.grown g)
  replace Hr1 := Lib.hid (Hr1.out.grown g)
  replace Hr2 := Lib.hid (Hr2.out.grown g)
  replace Hr3 := Lib.hid (Hr3.out.grown g)
  replace Hr4 := Lib.hid (Hr4.out.grown g)
  replace Hr5 := Lib.hid (Hr5.out.grown g)
  replace Hr6 := Lib.hid (Hr6.out.grown g)
  replace Hr11 := Lib.hid (Hr11.out.grown g)
  replace HB5 := Lib.hid (And.intro (World.grownBy.cell g HB5.out.1 (by simp)) (World.grownBy.cell g HB5.out.2 (by simp)))
  replace HB6 := Lib.hid (And.intro (World.grownBy.cell g HB6.out.1 (by simp)) (World.grownBy.cell g HB6.out.2 (by simp)))
  replace HB7 := Lib.hid (And.intro (World.grownBy.cell g HB7.out.1 (by simp)) (World.grownBy.cell g HB7.out.2 (by simp)))
  replace HB8 := Lib.hid (And.intro (World.grownBy.cell g HB8.out.1 (by simp)) (World.grownBy.cell g HB8.out.2 (by simp)))
  replace HB10 := Lib.hid (And.intro (World.grownBy.cell g HB10.out.1 (by simp)) (World.grownBy.cell g HB10.out.2 (by simp)))
  replace HB11 := Lib.hid (And.intro (World.grownBy.cell g HB11.out.1 (by simp)) (World.grownBy.cell g HB11.out.2 (by simp)))
  replace HB12 := Lib.hid (And.intro (World.grownBy.cell g HB12.out.1 (by simp)) (World.grownBy.cell g HB12.out.2 (by simp)))
  replace HG := Lib.hid (World.grownBy.trans HG.out g)
  clear g
  have HB14 := Lib.hid (And.intro hbx.2.1 hbx.2.2.1)
  clear hbx
  have HS := Lib.hid (fun (Wh : World) (hWh : V22.grownBy Wh none) => (⟨hWh, hWh.cell HB5.out.1 (by simp), hWh.cell HB5.out.2 (by simp), hWh.cell HB6.out.1 (by simp), hWh.cell HB6.out.2 (by simp), hWh.cell HB7.out.1 (by simp), hWh.cell HB7.out.2 (by simp), hWh.cell HB8.out.1 (by simp), hWh.cell HB8.out.2 (by simp), hWh.cell HB10.out.1 (by simp), hWh.cell HB10.out.2 (by simp), hWh.cell HB11.out.1 (by simp), hWh.cell HB11.out.2 (by simp), hWh.cell HB12.out.1 (by simp), hWh.cell HB12.out.2 (by simp), hWh.cell HB14.out.1 (by simp), hWh.cell HB14.out.2 (by simp)⟩ : (fun Wh : World => V22.grownBy Wh none ∧ Wh.cell? ⟨bB5, 0, none⟩ = some (.int .i64 2) ∧ Wh.cell? ⟨bB5, 1, none⟩ = some (.slice xa lL1 ya) ∧ Wh.cell? ⟨bB6, 0, none⟩ = some (.int .i64 2) ∧ Wh.cell? ⟨bB6, 1, none⟩ = some (.slice xb lL2 yb) ∧ Wh.cell? ⟨bB7, 0, none⟩ = some (.int .i64 2) ∧ Wh.cell? ⟨bB7, 1, none⟩ = some (.slice xr1 lL3 yr1) ∧ Wh.cell? ⟨bB8, 0, none⟩ = some (.int .i64 2) ∧ Wh.cell? ⟨bB8, 1, none⟩ = some (.slice xr2 lL4 yr2) ∧ Wh.cell? ⟨bB10, 0, none⟩ = some (.int .i64 2) ∧ Wh.cell? ⟨bB10, 1, none⟩ = some (.slice xr4 lL6 yr4) ∧ Wh.cell? ⟨bB11, 0, none⟩ = some (.int .i64 2) ∧ Wh.cell? ⟨bB11, 1, none⟩ = some (.slice xr5 lL5 yr5) ∧ Wh.cell? ⟨bB12, 0, none⟩ = some (.int .i64 2) ∧ Wh.cell? ⟨bB12, 1, none⟩ = some (.slice xr6 lL7 yr6) ∧ Wh.cell? ⟨bB14, 0, none⟩ = some (.int .i64 2) ∧ Wh.cell? ⟨bB14, 1, none⟩ = some (.slice xr11 lL8 yr11)) Wh))
  have hdr : V22.grownBy V22.drew none := ⟨rfl, rfl, rfl, Nat.le_refl _, fun _ _ _ => rfl⟩
  refine wp_region_held_drew (S := (fun Wh : World => V22.grownBy Wh none ∧ Wh.cell? ⟨bB5, 0, none⟩ = some (.int .i64 2) ∧ Wh.cell? ⟨bB5, 1, none⟩ = some (.slice xa lL1 ya) ∧ Wh.cell? ⟨bB6, 0, none⟩ = some (.int .i64 2) ∧ Wh.cell? ⟨bB6, 1, none⟩ = some (.slice xb lL2 yb) ∧ Wh.cell? ⟨bB7, 0, none⟩ = some (.int .i64 2) ∧ Wh.cell? ⟨bB7, 1, none⟩ = some (.slice xr1 lL3 yr1) ∧ Wh.cell? ⟨bB8, 0, none⟩ = some (.int .i64 2) ∧ Wh.cell? ⟨bB8, 1, none⟩ = some (.slice xr2 lL4 yr2) ∧ Wh.cell? ⟨bB10, 0, none⟩ = some (.int .i64 2) ∧ Wh.cell? ⟨bB10, 1, none⟩ = some (.slice xr4 lL6 yr4) ∧ Wh.cell? ⟨bB11, 0, none⟩ = some (.int .i64 2) ∧ Wh.cell? ⟨bB11, 1, none⟩ = some (.slice xr5 lL5 yr5) ∧ Wh.cell? ⟨bB12, 0, none⟩ = some (.int .i64 2) ∧ Wh.cell? ⟨bB12, 1, none⟩ = some (.slice xr6 lL7 yr6) ∧ Wh.cell? ⟨bB14, 0, none⟩ = some (.int .i64 2) ∧ Wh.cell? ⟨bB14, 1, none⟩ = some (.slice xr11 lL8 yr11))) (by kernel_rfl) (HS.out _ hdr) (fun hHeld => ?_)
  refine wpAnyH_take (i := 0) (oi := { dst := some 93, op := Op.move (Operand.tmp 3), type := 4, pos := "law.go:189", after := #[], guard := none }) (v := ?_) rfl (by kernel_rfl) (by kernel_rfl) (by kernel_rfl) (fun _ _ _ h => h) (Or.inl ⟨by rfl, ?_⟩) (by assumption) ?_
  rotate_left 1
  · (intro W hSW; (try dsimp only at hSW); first | (go_simp; done) | (go_simp; with_reducible rfl))
  try simp only [Act.put, List.setIfInBounds_toArray, List.set_cons_zero, List.set_cons_succ]
  refine wpAnyH_take (i := 1) (oi := { dst := some 94, op := Op.move (Operand.tmp 93), type := 4, pos := "law.go:189", after := #[{ on := 0, ground := Ground.data }], guard := none }) (v := ?_) rfl (by kernel_rfl) (by kernel_rfl) (by kernel_rfl) (fun _ _ _ h => h) (Or.inl ⟨by rfl, ?_⟩) (by assumption) ?_
  rotate_left 1
  · (intro W hSW; (try dsimp only at hSW); first | (go_simp; done) | (go_simp; with_reducible rfl))
  try simp only [Act.put, List.setIfInBounds_toArray, List.set_cons_zero, List.set_cons_succ]
  refine wpAnyH_take (i := 2) (oi := { dst := some 95, op := Op.move (Operand.tmp 15), type := 33, pos := "law.go:189", after := #[{ on := 1, ground := Ground.guard }], guard := some (1, true) }) (v := ?_) rfl (by kernel_rfl) (by kernel_rfl) (by kernel_rfl) (fun _ _ _ h => h) (Or.inl ⟨by rfl, ?_⟩) (by assumption) ?_
  rotate_left 1
  · (intro W hSW; (try dsimp only at hSW); first | (go_simp; done) | (go_simp; with_reducible rfl))
  try simp only [Act.put, List.setIfInBounds_toArray, List.set_cons_zero, List.set_cons_succ]
  refine wpAnyH_take (i := 3) (oi := { dst := some 96, op := Op.binOp BinOp.eql 33 (Operand.tmp 95) (Operand.const (Value.int IntKind.i64 0)) 33, type := 4, pos := "law.go:189", after := #[{ on := 2, ground := Ground.data }, { on := 1, ground := Ground.guard }], guard := some (1, true) }) (v := ?_) rfl (by kernel_rfl) (by kernel_rfl) (by kernel_rfl) (fun _ _ _ h => h) (Or.inl ⟨by rfl, ?_⟩) (by assumption) ?_
  rotate_left 1
  · (intro W hSW; (try dsimp only at hSW); first | (go_simp; done) | (go_simp; with_reducible rfl))
  try simp only [Act.put, List.setIfInBounds_toArray, List.set_cons_zero, List.set_cons_succ]
  refine wpAnyH_take (i := 4) (oi := { dst := some 97, op := Op.pick (Operand.tmp 94) (Operand.tmp 96) (Operand.const (Value.bool false)), type := 4, pos := "law.go:189", after := #[{ on := 1, ground := Ground.data }, { on := 3, ground := Ground.data }], guard := none }) (v := ?_) rfl (by kernel_rfl) (by kernel_rfl) (by kernel_rfl) (fun _ _ _ h => h) (Or.inl ⟨by rfl, ?_⟩) (by assumption) ?_
  rotate_left 1
  · (intro W hSW; (try dsimp only at hSW); first | (go_simp; done) | (go_simp; with_reducible rfl))
  try simp only [Act.put, List.setIfInBounds_toArray, List.set_cons_zero, List.set_cons_succ]
  refine wpAnyH_take (i := 5) (oi := { dst := some 98, op := Op.move (Operand.tmp 97), type := 4, pos := "law.go:189", after := #[{ on := 4, ground := Ground.data }, { on := 1, ground := Ground.chain }], guard := none }) (v := ?_) rfl (by kernel_rfl) (by kernel_rfl) (by kernel_rfl) (fun _ _ _ h => h) (Or.inl ⟨by rfl, ?_⟩) (by assumption) ?_
  rotate_left 1
  · (intro W hSW; (try dsimp only at hSW); first | (go_simp; done) | (go_simp; with_reducible rfl))
  try simp only [Act.put, List.setIfInBounds_toArray, List.set_cons_zero, List.set_cons_succ]
  refine wpAnyH_take (i := 6) (oi := { dst := some 99, op := Op.load 27 (Operand.tmp 7), type := 27, pos := "law.go:189", after := #[{ on := 5, ground := Ground.guard }], guard := some (5, true) }) (v := ?_) rfl (by kernel_rfl) (by kernel_rfl) (by kernel_rfl) (fun _ _ _ h => h) (Or.inl ⟨by rfl, ?_⟩) (by assumption) ?_
  rotate_left 1
  · (intro W hSW; (try dsimp only at hSW); first | (go_simp; done) | (go_simp; with_reducible rfl))
  try simp only [Act.put, List.setIfInBounds_toArray, List.set_cons_zero, List.set_cons_succ]
  refine wpAnyH_take (i := 7) (oi := { dst := some 100, op := Op.load 27 (Operand.tmp 5), type := 27, pos := "law.go:189", after := #[{ on := 5, ground := Ground.guard }], guard := some (5, true) }) (v := ?_) rfl (by kernel_rfl) (by kernel_rfl) (by kernel_rfl) (fun _ _ _ h => h) (Or.inl ⟨by rfl, ?_⟩) (by assumption) ?_
  rotate_left 1
  · (intro W hSW; (try dsimp only at hSW); first | (go_simp; done) | (go_simp; with_reducible rfl))
  try simp only [Act.put, List.setIfInBounds_toArray, List.set_cons_zero, List.set_cons_succ]
  refine wpAnyH_take (i := 8) (oi := { dst := some 101, op := Op.load 27 (Operand.tmp 14), type := 27, pos := "law.go:189", after := #[{ on := 5, ground := Ground.guard }], guard := some (5, true) }) (v := ?_) rfl (by kernel_rfl) (by kernel_rfl) (by kernel_rfl) (fun _ _ _ h => h) (Or.inl ⟨by rfl, ?_⟩) (by assumption) ?_
  rotate_left 1
  · (intro W hSW; (try dsimp only at hSW); first | (go_simp; done) | (go_simp; with_reducible rfl))
  try simp only [Act.put, List.setIfInBounds_toArray, List.set_cons_zero, List.set_cons_succ]
  refine wpAnyH_ready (rs := [9]) (by kernel_rfl) (by simp) ?_
  refine (AllReadyH.cons (o := { dst := some 102, op := Op.call { callee := Callee.value (Operand.func 27), args := #[Operand.tmp 100, Operand.tmp 101], argTypes := #[27, 27] }, type := 27, pos := "law.go:189", after := #[{ on := 7, ground := Ground.data }, { on := 8, ground := Ground.data }, { on := 5, ground := Ground.chain }, { on := 5, ground := Ground.guard }], guard := some (5, true) }) rfl (fun K hK => ?_) AllReadyH.nil)
  rw [if_pos (by rfl)]
  go_simp
  go_at_call 27
  refine (unionV (2 : Nat) (2 : Nat) vL1.out vL8.out hn5 (by omega) (by rw [← EL1.out, ← EL8.out]; exact EL9.out) ZL1.out ZL8.out ZL9.out _ _ _ _ _ (Ha.out.grown hdr) (Hr11.out.grown hdr)).mono ?_
  rintro e wc9 ⟨xr12, yr12, rfl, hrr12, gc9⟩
  have hgr9 := World.grownBy.trans hdr gc9
  go_wp2_with fail
  refine hK.out _ _ (HS.out _ hgr9) (fun hHeld => ?_)
  clear hK K
  try simp only [Act.put, List.setIfInBounds_toArray, List.set_cons_zero, List.set_cons_succ]
  refine wpAnyH_ready (rs := [10]) (by kernel_rfl) (by simp) ?_
  refine (AllReadyH.cons (o := { dst := some 103, op := Op.call { callee := Callee.value (Operand.func 19), args := #[Operand.tmp 99, Operand.tmp 102], argTypes := #[27, 27] }, type := 4, pos := "law.go:189", after := #[{ on := 6, ground := Ground.data }, { on := 9, ground := Ground.data }, { on := 9, ground := Ground.chain }, { on := 5, ground := Ground.guard }], guard := some (5, true) }) rfl (fun K hK => ?_) AllReadyH.nil)
  rw [if_pos (by rfl)]
  go_simp
  go_at_call 19
  refine (equalV (k := 2) (Q := true) (2 : Nat) (2 : Nat) vL3.out hn5 (by omega) (eqQ _ Q13.out) ZL3.out ZL9.out _ _ _ _ _ (Hr1.out.grown hgr9) hrr12).mono ?_
  rintro e wc10 ⟨rfl, gc10⟩
  have hgr10 := World.grownBy.trans hgr9 gc10
  go_wp2_with fail
  refine hK.out _ _ (HS.out _ hgr10) (fun hHeld => ?_)
  clear hK K
  try simp only [Act.put, List.setIfInBounds_toArray, List.set_cons_zero, List.set_cons_succ]
  refine wpAnyH_take (i := 11) (oi := { dst := some 104, op := Op.pick (Operand.tmp 98) (Operand.tmp 103) (Operand.const (Value.bool false)), type := 4, pos := "law.go:189", after := #[{ on := 5, ground := Ground.data }, { on := 10, ground := Ground.data }], guard := none }) (v := ?_) rfl (by kernel_rfl) (by kernel_rfl) (by kernel_rfl) (fun _ _ _ h => h) (Or.inl ⟨by rfl, ?_⟩) (by assumption) ?_
  rotate_left 1
  · (intro W hSW; (try dsimp only at hSW); first | (go_simp; done) | (go_simp; with_reducible rfl))
  try simp only [Act.put, List.setIfInBounds_toArray, List.set_cons_zero, List.set_cons_succ]
  refine wpAnyH_take (i := 12) (oi := { dst := some 105, op := Op.move (Operand.tmp 104), type := 4, pos := "law.go:189", after := #[{ on := 11, ground := Ground.data }, { on := 10, ground := Ground.chain }], guard := none }) (v := ?_) rfl (by kernel_rfl) (by kernel_rfl) (by kernel_rfl) (fun _ _ _ h => h) (Or.inl ⟨by rfl, ?_⟩) (by assumption) ?_
  rotate_left 1
  · (intro W hSW; (try dsimp only at hSW); first | (go_simp; done) | (go_simp; with_reducible rfl))
  try simp only [Act.put, List.setIfInBounds_toArray, List.set_cons_zero, List.set_cons_succ]
  refine wpAnyH_take (i := 13) (oi := { dst := some 106, op := Op.move (Operand.tmp 4), type := 3, pos := "law.go:189", after := #[{ on := 12, ground := Ground.guard }], guard := some (12, true) }) (v := ?_) rfl (by kernel_rfl) (by kernel_rfl) (by kernel_rfl) (fun _ _ _ h => h) (Or.inl ⟨by rfl, ?_⟩) (by assumption) ?_
  rotate_left 1
  · (intro W hSW; (try dsimp only at hSW); first | (go_simp; done) | (go_simp; with_reducible rfl))
  try simp only [Act.put, List.setIfInBounds_toArray, List.set_cons_zero, List.set_cons_succ]
  refine wpAnyH_take (i := 14) (oi := { dst := some 107, op := Op.load 27 (Operand.tmp 7), type := 27, pos := "law.go:189", after := #[{ on := 12, ground := Ground.guard }], guard := some (12, true) }) (v := ?_) rfl (by kernel_rfl) (by kernel_rfl) (by kernel_rfl) (fun _ _ _ h => h) (Or.inl ⟨by rfl, ?_⟩) (by assumption) ?_
  rotate_left 1
  · (intro W hSW; (try dsimp only at hSW); first | (go_simp; done) | (go_simp; with_reducible rfl))
  try simp only [Act.put, List.setIfInBounds_toArray, List.set_cons_zero, List.set_cons_succ]
  refine wpAnyH_take (i := 16) (oi := { dst := some 109, op := Op.load 27 (Operand.tmp 7), type := 27, pos := "law.go:189", after := #[{ on := 12, ground := Ground.guard }], guard := some (12, true) }) (v := ?_) rfl (by kernel_rfl) (by kernel_rfl) (by kernel_rfl) (fun _ _ _ h => h) (Or.inl ⟨by rfl, ?_⟩) (by assumption) ?_
  rotate_left 1
  · (intro W hSW; (try dsimp only at hSW); first | (go_simp; done) | (go_simp; with_reducible rfl))
  try simp only [Act.put, List.setIfInBounds_toArray, List.set_cons_zero, List.set_cons_succ]
  refine wpAnyH_ready (rs := [15]) (by kernel_rfl) (by simp) ?_
  refine (AllReadyH.cons (o := { dst := some 108, op := Op.call { callee := Callee.value (Operand.func 23), args := #[Operand.tmp 106, Operand.tmp 107], argTypes := #[3, 27] }, type := 27, pos := "law.go:189", after := #[{ on := 13, ground := Ground.data }, { on := 14, ground := Ground.data }, { on := 12, ground := Ground.chain }, { on := 12, ground := Ground.guard }], guard := some (12, true) }) rfl (fun K hK => ?_) AllReadyH.nil)
  rw [if_pos (by rfl)]
  go_simp
  go_at_call 23
  refine (closV vL3.out hn5 (by rw [← EL3.out]; exact EL10.out) ZL3.out ZL10.out _ _ _ (Hr1.out.grown hgr10)).mono ?_
  rintro e wc15 ⟨xr14, yr14, rfl, hrr14, gc15⟩
  have hgr15 := World.grownBy.trans hgr10 gc15
  go_wp2_with fail
  refine hK.out _ _ (HS.out _ hgr15) (fun hHeld => ?_)
  clear hK K
  try simp only [Act.put, List.setIfInBounds_toArray, List.set_cons_zero, List.set_cons_succ]
  refine wpAnyH_ready (rs := [17]) (by kernel_rfl) (by simp) ?_
  refine (AllReadyH.cons (o := { dst := some 110, op := Op.call { callee := Callee.value (Operand.func 19), args := #[Operand.tmp 108, Operand.tmp 109], argTypes := #[27, 27] }, type := 4, pos := "law.go:189", after := #[{ on := 15, ground := Ground.data }, { on := 16, ground := Ground.data }, { on := 15, ground := Ground.chain }, { on := 12, ground := Ground.guard }], guard := some (12, true) }) rfl (fun K hK => ?_) AllReadyH.nil)
  rw [if_pos (by rfl)]
  go_simp
  go_at_call 19
  refine (equalV (k := 2) (Q := true) (2 : Nat) (2 : Nat) vL10.out hn5 (by omega) (eqQ _ Q15.out) ZL10.out ZL3.out _ _ _ _ _ hrr14 (Hr1.out.grown hgr15)).mono ?_
  rintro e wc17 ⟨rfl, gc17⟩
  have hgr17 := World.grownBy.trans hgr15 gc17
  go_wp2_with fail
  refine hK.out _ _ (HS.out _ hgr17) (fun hHeld => ?_)
  clear hK K
  try simp only [Act.put, List.setIfInBounds_toArray, List.set_cons_zero, List.set_cons_succ]
  refine wpAnyH_take (i := 18) (oi := { dst := some 111, op := Op.pick (Operand.tmp 105) (Operand.tmp 110) (Operand.const (Value.bool false)), type := 4, pos := "law.go:189", after := #[{ on := 12, ground := Ground.data }, { on := 17, ground := Ground.data }], guard := none }) (v := ?_) rfl (by kernel_rfl) (by kernel_rfl) (by kernel_rfl) (fun _ _ _ h => h) (Or.inl ⟨by rfl, ?_⟩) (by assumption) ?_
  rotate_left 1
  · (intro W hSW; (try dsimp only at hSW); first | (go_simp; done) | (go_simp; with_reducible rfl))
  try simp only [Act.put, List.setIfInBounds_toArray, List.set_cons_zero, List.set_cons_succ]
  refine wpAnyH_take (i := 19) (oi := { dst := some 112, op := Op.move (Operand.tmp 111), type := 4, pos := "law.go:189", after := #[{ on := 18, ground := Ground.data }, { on := 17, ground := Ground.chain }], guard := none }) (v := ?_) rfl (by kernel_rfl) (by kernel_rfl) (by kernel_rfl) (fun _ _ _ h => h) (Or.inl ⟨by rfl, ?_⟩) (by assumption) ?_
  rotate_left 1
  · (intro W hSW; (try dsimp only at hSW); first | (go_simp; done) | (go_simp; with_reducible rfl))
  try simp only [Act.put, List.setIfInBounds_toArray, List.set_cons_zero, List.set_cons_succ]
  refine wpAnyH_take (i := 20) (oi := { dst := some 113, op := Op.move (Operand.tmp 4), type := 3, pos := "law.go:189", after := #[{ on := 19, ground := Ground.guard }], guard := some (19, true) }) (v := ?_) rfl (by kernel_rfl) (by kernel_rfl) (by kernel_rfl) (fun _ _ _ h => h) (Or.inl ⟨by rfl, ?_⟩) (by assumption) ?_
  rotate_left 1
  · (intro W hSW; (try dsimp only at hSW); first | (go_simp; done) | (go_simp; with_reducible rfl))
  try simp only [Act.put, List.setIfInBounds_toArray, List.set_cons_zero, List.set_cons_succ]
  refine wpAnyH_take (i := 21) (oi := { dst := some 114, op := Op.move (Operand.tmp 4), type := 3, pos := "law.go:189", after := #[{ on := 19, ground := Ground.guard }], guard := some (19, true) }) (v := ?_) rfl (by kernel_rfl) (by kernel_rfl) (by kernel_rfl) (fun _ _ _ h => h) (Or.inl ⟨by rfl, ?_⟩) (by assumption) ?_
  rotate_left 1
  · (intro W hSW; (try dsimp only at hSW); first | (go_simp; done) | (go_simp; with_reducible rfl))
  try simp only [Act.put, List.setIfInBounds_toArray, List.set_cons_zero, List.set_cons_succ]
  refine wpAnyH_take (i := 22) (oi := { dst := some 115, op := Op.load 27 (Operand.tmp 5), type := 27, pos := "law.go:189", after := #[{ on := 19, ground := Ground.guard }], guard := some (19, true) }) (v := ?_) rfl (by kernel_rfl) (by kernel_rfl) (by kernel_rfl) (fun _ _ _ h => h) (Or.inl ⟨by rfl, ?_⟩) (by assumption) ?_
  rotate_left 1
  · (intro W hSW; (try dsimp only at hSW); first | (go_simp; done) | (go_simp; with_reducible rfl))
  try simp only [Act.put, List.setIfInBounds_toArray, List.set_cons_zero, List.set_cons_succ]
  refine wpAnyH_take (i := 25) (oi := { dst := some 118, op := Op.move (Operand.tmp 4), type := 3, pos := "law.go:189", after := #[{ on := 19, ground := Ground.guard }], guard := some (19, true) }) (v := ?_) rfl (by kernel_rfl) (by kernel_rfl) (by kernel_rfl) (fun _ _ _ h => h) (Or.inl ⟨by rfl, ?_⟩) (by assumption) ?_
  rotate_left 1
  · (intro W hSW; (try dsimp only at hSW); first | (go_simp; done) | (go_simp; with_reducible rfl))
  try simp only [Act.put, List.setIfInBounds_toArray, List.set_cons_zero, List.set_cons_succ]
  refine wpAnyH_take (i := 26) (oi := { dst := some 119, op := Op.load 27 (Operand.tmp 7), type := 27, pos := "law.go:189", after := #[{ on := 19, ground := Ground.guard }], guard := some (19, true) }) (v := ?_) rfl (by kernel_rfl) (by kernel_rfl) (by kernel_rfl) (fun _ _ _ h => h) (Or.inl ⟨by rfl, ?_⟩) (by assumption) ?_
  rotate_left 1
  · (intro W hSW; (try dsimp only at hSW); first | (go_simp; done) | (go_simp; with_reducible rfl))
  try simp only [Act.put, List.setIfInBounds_toArray, List.set_cons_zero, List.set_cons_succ]
  refine wpAnyH_ready (rs := [23]) (by kernel_rfl) (by simp) ?_
  refine (AllReadyH.cons (o := { dst := some 116, op := Op.call { callee := Callee.value (Operand.func 21), args := #[Operand.tmp 114, Operand.tmp 115], argTypes := #[3, 27] }, type := 27, pos := "law.go:189", after := #[{ on := 21, ground := Ground.data }, { on := 22, ground := Ground.data }, { on := 19, ground := Ground.chain }, { on := 19, ground := Ground.guard }], guard := some (19, true) }) rfl (fun K hK => ?_) AllReadyH.nil)
  rw [if_pos (by rfl)]
  go_simp
  go_at_call 21
  refine (turnV vL1.out hn1 hn5 (by rw [← EL1.out]; exact EL11.out) ZL1.out ZL11.out _ _ _ (Ha.out.grown hgr17)).mono ?_
  rintro e wc23 ⟨xr16, yr16, rfl, hrr16, gc23⟩
  have hgr23 := World.grownBy.trans hgr17 gc23
  go_wp2_with fail
  refine hK.out _ _ (HS.out _ hgr23) (fun hHeld => ?_)
  clear hK K
  try simp only [Act.put, List.setIfInBounds_toArray, List.set_cons_zero, List.set_cons_succ]
  refine wpAnyH_ready (rs := [24]) (by kernel_rfl) (by simp) ?_
  refine (AllReadyH.cons (o := { dst := some 117, op := Op.call { callee := Callee.value (Operand.func 23), args := #[Operand.tmp 113, Operand.tmp 116], argTypes := #[3, 27] }, type := 27, pos := "law.go:189", after := #[{ on := 20, ground := Ground.data }, { on := 23, ground := Ground.data }, { on := 23, ground := Ground.chain }, { on := 19, ground := Ground.guard }], guard := some (19, true) }) rfl (fun K hK => ?_) AllReadyH.nil)
  rw [if_pos (by rfl)]
  go_simp
  go_at_call 23
  refine (closV vL11.out hn5 (by rw [← EL11.out]; exact EL12.out) ZL11.out ZL12.out _ _ _ hrr16).mono ?_
  rintro e wc24 ⟨xr17, yr17, rfl, hrr17, gc24⟩
  have hgr24 := World.grownBy.trans hgr23 gc24
  go_wp2_with fail
  refine hK.out _ _ (HS.out _ hgr24) (fun hHeld => ?_)
  clear hK K
  try simp only [Act.put, List.setIfInBounds_toArray, List.set_cons_zero, List.set_cons_succ]
  refine wpAnyH_ready (rs := [27]) (by kernel_rfl) (by simp) ?_
  refine (AllReadyH.cons (o := { dst := some 120, op := Op.call { callee := Callee.value (Operand.func 21), args := #[Operand.tmp 118, Operand.tmp 119], argTypes := #[3, 27] }, type := 27, pos := "law.go:189", after := #[{ on := 25, ground := Ground.data }, { on := 26, ground := Ground.data }, { on := 24, ground := Ground.chain }, { on := 19, ground := Ground.guard }], guard := some (19, true) }) rfl (fun K hK => ?_) AllReadyH.nil)
  rw [if_pos (by rfl)]
  go_simp
  go_at_call 21
  refine (turnV vL3.out hn1 hn5 (by rw [← EL3.out]; exact EL13.out) ZL3.out ZL13.out _ _ _ (Hr1.out.grown hgr24)).mono ?_
  rintro e wc27 ⟨xr18, yr18, rfl, hrr18, gc27⟩
  have hgr27 := World.grownBy.trans hgr24 gc27
  go_wp2_with fail
  refine hK.out _ _ (HS.out _ hgr27) (fun hHeld => ?_)
  clear hK K
  try simp only [Act.put, List.setIfInBounds_toArray, List.set_cons_zero, List.set_cons_succ]
  refine wpAnyH_ready (rs := [28]) (by kernel_rfl) (by simp) ?_
  refine (AllReadyH.cons (o := { dst := some 121, op := Op.call { callee := Callee.value (Operand.func 19), args := #[Operand.tmp 117, Operand.tmp 120], argTypes := #[27, 27] }, type := 4, pos := "law.go:189", after := #[{ on := 24, ground := Ground.data }, { on := 27, ground := Ground.data }, { on := 27, ground := Ground.chain }, { on := 19, ground := Ground.guard }], guard := some (19, true) }) rfl (fun K hK => ?_) AllReadyH.nil)
  rw [if_pos (by rfl)]
  go_simp
  go_at_call 19
  refine (equalV (k := 2) (Q := true) (2 : Nat) (2 : Nat) vL12.out hn5 (by omega) (eqQ _ Q19.out) ZL12.out ZL13.out _ _ _ _ _ (hrr17.grown gc27) hrr18).mono ?_
  rintro e wc28 ⟨rfl, gc28⟩
  have hgr28 := World.grownBy.trans hgr27 gc28
  go_wp2_with fail
  refine hK.out _ _ (HS.out _ hgr28) (fun hHeld => ?_)
  clear hK K
  try simp only [Act.put, List.setIfInBounds_toArray, List.set_cons_zero, List.set_cons_succ]
  refine wpAnyH_take (i := 29) (oi := { dst := some 122, op := Op.pick (Operand.tmp 112) (Operand.tmp 121) (Operand.const (Value.bool false)), type := 4, pos := "law.go:189", after := #[{ on := 19, ground := Ground.data }, { on := 28, ground := Ground.data }], guard := none }) (v := ?_) rfl (by kernel_rfl) (by kernel_rfl) (by kernel_rfl) (fun _ _ _ h => h) (Or.inl ⟨by rfl, ?_⟩) (by assumption) ?_
  rotate_left 1
  · (intro W hSW; (try dsimp only at hSW); first | (go_simp; done) | (go_simp; with_reducible rfl))
  try simp only [Act.put, List.setIfInBounds_toArray, List.set_cons_zero, List.set_cons_succ]
  refine wpAnyH_take (i := 30) (oi := { dst := some 2, op := Op.assign (Operand.tmp 122), type := 4, pos := "law.go:189", after := #[{ on := 29, ground := Ground.data }, { on := 28, ground := Ground.chain }, { on := 0, ground := Ground.phase }, { on := 1, ground := Ground.phase }, { on := 2, ground := Ground.phase }, { on := 3, ground := Ground.phase }, { on := 4, ground := Ground.phase }, { on := 5, ground := Ground.phase }, { on := 6, ground := Ground.phase }, { on := 7, ground := Ground.phase }, { on := 8, ground := Ground.phase }, { on := 9, ground := Ground.phase }, { on := 10, ground := Ground.phase }, { on := 11, ground := Ground.phase }, { on := 12, ground := Ground.phase }, { on := 13, ground := Ground.phase }, { on := 14, ground := Ground.phase }, { on := 15, ground := Ground.phase }, { on := 16, ground := Ground.phase }, { on := 17, ground := Ground.phase }, { on := 18, ground := Ground.phase }, { on := 19, ground := Ground.phase }, { on := 20, ground := Ground.phase }, { on := 21, ground := Ground.phase }, { on := 22, ground := Ground.phase }, { on := 23, ground := Ground.phase }, { on := 24, ground := Ground.phase }, { on := 25, ground := Ground.phase }, { on := 26, ground := Ground.phase }, { on := 27, ground := Ground.phase }, { on := 28, ground := Ground.phase }, { on := 29, ground := Ground.phase }], guard := none }) (v := ?_) rfl (by kernel_rfl) (by kernel_rfl) (by kernel_rfl) (fun _ _ _ h => h) (Or.inl ⟨by rfl, ?_⟩) (by assumption) ?_
  rotate_left 1
  · (intro W hSW; (try dsimp only at hSW); first | (go_simp; done) | (go_simp; with_reducible rfl))
  try simp only [Act.put, List.setIfInBounds_toArray, List.set_cons_zero, List.set_cons_succ]
  refine wpAnyH_done (by kernel_rfl) ?_ _
  have hEND := hgr28
  clear hHeld
  have HE := Lib.hid (World.grownBy.trans HG.out hEND)
  clear hEND
  go_wp2_with fail
  go_ret
  exact ⟨rfl, HE.out⟩

set_option maxRecDepth 100000 in
set_option maxHeartbeats 20000000 in
theorem closures_calls (N Ar : Nat) (A0 B0 C0 : List Nat) (aa ab ac : Option Addr) (ca cb cc : Nat) (W0 : World) (h : RawAt W0 N Ar A0 B0 C0 aa ab ac ca cb cc) :
    Calls Try.prog 8 #[.agg #[.int .u8 (N : Int), .int .u8 (Ar : Int), .slice aa A0.length ca, .slice ab B0.length cb, .slice ac C0.length cc]] W0 fun e w' => e = .returned (.bool true) ∧ W0.grownBy w' none := by
  by_cases hQ : ∀ z ∈ uniq (joinP (1 + N % 5) ((1 + N % 5) ^ (2 - 1)) (unionL (fromL (1 + N % 5) 2 A0) (fromL (1 + N % 5) 2 B0)) (unionL (fromL (1 + N % 5) 2 A0) (fromL (1 + N % 5) 2 B0))), z ∈ unionL (fromL (1 + N % 5) 2 A0) (fromL (1 + N % 5) 2 B0)
  · exact closures_true N Ar A0 B0 C0 aa ab ac ca cb cc W0 h hQ
  · exact closures_false N Ar A0 B0 C0 aa ab ac ca cb cc W0 h hQ
end Go.Proofs.Ytkoigonbncpbaaa
