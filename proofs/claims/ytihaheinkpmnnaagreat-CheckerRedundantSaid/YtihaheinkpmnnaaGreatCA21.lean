/- Texts of the proof: IC CW SG. -/
import Derived.Test.YtihaheinkpmnnaaGreatCA20
import Derived.Test.YtihaheinkpmnnaaGreatCA01
import Derived.Test.YtihaheinkpmnnaaGreatCA15
import Derived.Test.YtihaheinkpmnnaaGreatCA16
namespace Go.Proofs.YtihaheinkpmnnaaGreat
set_option maxRecDepth 200000
open Go.RowKit
theorem ixOf_any (C : List (List Int)) (F : List Int → Bool) : decide (ixOf (C.findIdx? F) ≥ 0) = C.any F := by
  cases h : C.findIdx? F with
  | none =>
    rw [List.findIdx?_eq_none_iff] at h
    have : C.any F = false := by rw [List.any_eq_false]; intro x hx; simp [h x hx]
    rw [this]; rfl
  | some i =>
    rw [List.findIdx?_eq_some_iff_getElem] at h
    obtain ⟨hi, hf, _⟩ := h
    have : C.any F = true := List.any_eq_true.2 ⟨_, List.getElem_mem hi, hf⟩
    rw [this]; exact decide_eq_true (by show (0 : Int) ≤ (i : Int); omega)
set_option maxHeartbeats 2000000 in
theorem index92_calls {F : List Int → Bool} {p0 : Value} {w : World} {ca : Option Addr} {cc : Nat} {C : List (List Int)} (hC : ClsW w ca cc C) (hn : C.length ≤ 100000)
    (hcl : ∀ (z : List Int) (a : Option Addr) (c : Nat) (W : World), z ∈ C → w.grownBy W none → IntsW W a c z → Calls Tryz.prog 92 #[.slice a z.length c, p0] W fun e w' => e = .returned (.bool (F z)) ∧ W.grownBy w' none) :
    Calls Tryz.prog 51 #[.slice ca C.length cc, .func (.func 92) #[] #[p0]] w fun e w' => e = .returned (.int .i64 (ixOf (C.findIdx? F))) ∧ w.grownBy w' none := by
  obtain ⟨n, hnn⟩ : ∃ n, C.length = n := ⟨_, rfl⟩
  have HL := Lib.hid (And.intro hC hnn)
  have HOC := Lib.hid hcl
  rw [hnn] at hn ⊢
  clear hC hnn hcl
  go_enter Tryz.func51, Tryz.ntmps51
  go_wp2_with fail
  go_loopg [8] n (fun gk s8 w' => ∃ k : Nat, s8 = .int .i64 (k : Int) ∧ gk = n - k ∧ k ≤ n ∧ w.grownBy w' none ∧ ∀ j, j < k → ∃ z, C[j]? = some z ∧ F z = false)
  case atStart => exact ⟨0, rfl, rfl, by omega, grown_refl _ _, fun j hj => by omega⟩
  case round =>
    obtain ⟨k, rfl, hgk, hk, hgr, hbef⟩ := hrel
    have HI := Lib.hid (And.intro hgk (And.intro hgr hbef))
    clear hgk hbef hgr
    by_cases hkn : k < n
    · have f1 : decide ((k : Int) < (n : Int)) = true := decide_eq_true (by omega)
      have f1' : decide (k < n) = true := decide_eq_true hkn
      have i0 : (0 : Int) ≤ (k : Int) := by omega
      have i1 : (k : Int) < (n : Int) := by omega
      have k1 : IntKind.i64.wrap ((k : Int) + 1) = (k : Int) + 1 := IntWalk.i64_in _ (by omega)
      obtain ⟨z, hz⟩ : ∃ z, C[k]? = some z := ⟨_, List.getElem?_eq_getElem (by rw [HL.out.2]; exact hkn)⟩
      obtain ⟨bz, oz, az, cz, rfl, hcell, hiz⟩ := (HL.out.1.grown HI.out.2.1).at hz
      have HCALL := Lib.hid (HOC.out z az cz wr (List.mem_of_getElem? hz) HI.out.2.1 hiz)
      have HZ := Lib.hid hz
      obtain ⟨ln, hln⟩ : ∃ x, z.length = x := ⟨_, rfl⟩
      rw [hln] at hcell HCALL
      clear hz hiz hln
      go_wp2_with fail
      refine HCALL.out.mono ?_
      rintro e w1 ⟨rfl, hg1⟩
      have HG := Lib.hid (HI.out.2.1.trans hg1)
      clear hg1
      obtain ⟨B, hB⟩ : ∃ B, F z = B := ⟨_, rfl⟩
      rw [hB]
      have HB := Lib.hid hB
      clear hB
      cases B with
      | true =>
        have HR : Hid (ixOf (C.findIdx? F) = (k : Int)) := Lib.hid (by
          have : C.findIdx? F = some k := by
            rw [List.findIdx?_eq_some_iff_getElem]
            obtain ⟨h1, h2⟩ := List.getElem?_eq_some_iff.1 HZ.out
            refine ⟨h1, by rw [h2]; exact HB.out, fun j hj => ?_⟩
            obtain ⟨y, hy, hf⟩ := HI.out.2.2 j hj
            obtain ⟨h3, h4⟩ := List.getElem?_eq_some_iff.1 hy
            rw [h4, hf]; decide
          rw [this]; rfl)
        go_wp2_with fail
        go_ret
        exact ⟨by rw [HR.out]; rfl, HG.out⟩
      | false =>
        go_wp2_with fail
        go_roundg (n - (k + 1))
        case measure => rw [HI.out.1]; omega
        case rel => exact ⟨k + 1, rfl, rfl, by omega, HG.out, fun j hj => by
          by_cases e : j = k
          · subst e; exact ⟨z, HZ.out, HB.out⟩
          · exact HI.out.2.2 j (by omega)⟩
    · have hkn' : k = n := by omega
      subst hkn'
      have f1 : decide ((k : Int) < (k : Int)) = false := decide_eq_false (by omega)
      have f1' : decide (k < k) = false := decide_eq_false (by omega)
      have HR : Hid (ixOf (C.findIdx? F) = -1) := Lib.hid (by
        have : C.findIdx? F = none := by
          rw [List.findIdx?_eq_none_iff]
          intro y hy
          obtain ⟨j, hj, rfl⟩ := List.getElem_of_mem hy
          obtain ⟨y', hy', hf⟩ := HI.out.2.2 j (by rw [← HL.out.2]; exact hj)
          rw [List.getElem?_eq_getElem hj] at hy'
          cases hy'; exact hf
        rw [this]; rfl)
      go_wp2_with fail
      go_ret
      exact ⟨by rw [HR.out]; rfl, HI.out.2.1⟩
set_option maxHeartbeats 2000000 in
theorem index39_calls {F : List Int → Bool} {p0 p1 : Value} {w : World} {ca : Option Addr} {cc : Nat} {C : List (List Int)} (hC : ClsW w ca cc C) (hn : C.length ≤ 100000)
    (hcl : ∀ (z : List Int) (a : Option Addr) (c : Nat) (W : World), z ∈ C → w.grownBy W none → IntsW W a c z → Calls Tryz.prog 39 #[.slice a z.length c, p0, p1] W fun e w' => e = .returned (.bool (F z)) ∧ W.grownBy w' none) :
    Calls Tryz.prog 51 #[.slice ca C.length cc, .func (.func 39) #[] #[p0, p1]] w fun e w' => e = .returned (.int .i64 (ixOf (C.findIdx? F))) ∧ w.grownBy w' none := by
  obtain ⟨n, hnn⟩ : ∃ n, C.length = n := ⟨_, rfl⟩
  have HL := Lib.hid (And.intro hC hnn)
  have HOC := Lib.hid hcl
  rw [hnn] at hn ⊢
  clear hC hnn hcl
  go_enter Tryz.func51, Tryz.ntmps51
  go_wp2_with fail
  go_loopg [8] n (fun gk s8 w' => ∃ k : Nat, s8 = .int .i64 (k : Int) ∧ gk = n - k ∧ k ≤ n ∧ w.grownBy w' none ∧ ∀ j, j < k → ∃ z, C[j]? = some z ∧ F z = false)
  case atStart => exact ⟨0, rfl, rfl, by omega, grown_refl _ _, fun j hj => by omega⟩
  case round =>
    obtain ⟨k, rfl, hgk, hk, hgr, hbef⟩ := hrel
    have HI := Lib.hid (And.intro hgk (And.intro hgr hbef))
    clear hgk hbef hgr
    by_cases hkn : k < n
    · have f1 : decide ((k : Int) < (n : Int)) = true := decide_eq_true (by omega)
      have f1' : decide (k < n) = true := decide_eq_true hkn
      have i0 : (0 : Int) ≤ (k : Int) := by omega
      have i1 : (k : Int) < (n : Int) := by omega
      have k1 : IntKind.i64.wrap ((k : Int) + 1) = (k : Int) + 1 := IntWalk.i64_in _ (by omega)
      obtain ⟨z, hz⟩ : ∃ z, C[k]? = some z := ⟨_, List.getElem?_eq_getElem (by rw [HL.out.2]; exact hkn)⟩
      obtain ⟨bz, oz, az, cz, rfl, hcell, hiz⟩ := (HL.out.1.grown HI.out.2.1).at hz
      have HCALL := Lib.hid (HOC.out z az cz wr (List.mem_of_getElem? hz) HI.out.2.1 hiz)
      have HZ := Lib.hid hz
      obtain ⟨ln, hln⟩ : ∃ x, z.length = x := ⟨_, rfl⟩
      rw [hln] at hcell HCALL
      clear hz hiz hln
      go_wp2_with fail
      refine HCALL.out.mono ?_
      rintro e w1 ⟨rfl, hg1⟩
      have HG := Lib.hid (HI.out.2.1.trans hg1)
      clear hg1
      obtain ⟨B, hB⟩ : ∃ B, F z = B := ⟨_, rfl⟩
      rw [hB]
      have HB := Lib.hid hB
      clear hB
      cases B with
      | true =>
        have HR : Hid (ixOf (C.findIdx? F) = (k : Int)) := Lib.hid (by
          have : C.findIdx? F = some k := by
            rw [List.findIdx?_eq_some_iff_getElem]
            obtain ⟨h1, h2⟩ := List.getElem?_eq_some_iff.1 HZ.out
            refine ⟨h1, by rw [h2]; exact HB.out, fun j hj => ?_⟩
            obtain ⟨y, hy, hf⟩ := HI.out.2.2 j hj
            obtain ⟨h3, h4⟩ := List.getElem?_eq_some_iff.1 hy
            rw [h4, hf]; decide
          rw [this]; rfl)
        go_wp2_with fail
        go_ret
        exact ⟨by rw [HR.out]; rfl, HG.out⟩
      | false =>
        go_wp2_with fail
        go_roundg (n - (k + 1))
        case measure => rw [HI.out.1]; omega
        case rel => exact ⟨k + 1, rfl, rfl, by omega, HG.out, fun j hj => by
          by_cases e : j = k
          · subst e; exact ⟨z, HZ.out, HB.out⟩
          · exact HI.out.2.2 j (by omega)⟩
    · have hkn' : k = n := by omega
      subst hkn'
      have f1 : decide ((k : Int) < (k : Int)) = false := decide_eq_false (by omega)
      have f1' : decide (k < k) = false := decide_eq_false (by omega)
      have HR : Hid (ixOf (C.findIdx? F) = -1) := Lib.hid (by
        have : C.findIdx? F = none := by
          rw [List.findIdx?_eq_none_iff]
          intro y hy
          obtain ⟨j, hj, rfl⟩ := List.getElem_of_mem hy
          obtain ⟨y', hy', hf⟩ := HI.out.2.2 j (by rw [← HL.out.2]; exact hj)
          rw [List.getElem?_eq_getElem hj] at hy'
          cases hy'; exact hf
        rw [this]; rfl)
      go_wp2_with fail
      go_ret
      exact ⟨by rw [HR.out]; rfl, HI.out.2.1⟩
set_option maxHeartbeats 1000000 in
theorem contains39_calls {F : List Int → Bool} {p0 p1 : Value} {w : World} {ca : Option Addr} {cc : Nat} {C : List (List Int)} (hC : ClsW w ca cc C) (hn : C.length ≤ 100000)
    (hcl : ∀ (z : List Int) (a : Option Addr) (c : Nat) (W : World), z ∈ C → w.grownBy W none → IntsW W a c z → Calls Tryz.prog 39 #[.slice a z.length c, p0, p1] W fun e w' => e = .returned (.bool (F z)) ∧ W.grownBy w' none) :
    Calls Tryz.prog 33 #[.slice ca C.length cc, .func (.func 39) #[] #[p0, p1]] w fun e w' => e = .returned (.bool (C.any F)) ∧ w.grownBy w' none := by
  have HC := Lib.hid (index39_calls hC hn hcl)
  have HR := Lib.hid (ixOf_any C F)
  obtain ⟨z, hz⟩ : ∃ z, ixOf (C.findIdx? F) = z := ⟨_, rfl⟩
  rw [hz] at HC HR
  obtain ⟨b, hb⟩ : ∃ b, C.any F = b := ⟨_, rfl⟩
  rw [hb] at HR ⊢
  obtain ⟨m, hm⟩ : ∃ m, C.length = m := ⟨_, rfl⟩
  rw [hm] at HC ⊢
  clear hC hn hcl hz hb hm
  have f1 : decide (z ≥ 0) = b := HR.out
  have f2 : decide (0 ≤ z) = b := HR.out
  go_enter Tryz.func33, Tryz.ntmps33
  go_wp2_with fail
  refine HC.out.mono ?_
  rintro e w1 ⟨rfl, hg⟩
  have HG := Lib.hid hg
  clear hg
  go_wp2_with fail
  go_ret
  exact ⟨rfl, HG.out⟩
set_option maxHeartbeats 2000000 in
theorem index65_calls {F : List Int → Bool} {p0 p1 p2 : Value} {w : World} {ca : Option Addr} {cc : Nat} {C : List (List Int)} (hC : ClsW w ca cc C) (hn : C.length ≤ 100000)
    (hcl : ∀ (z : List Int) (a : Option Addr) (c : Nat) (W : World), z ∈ C → w.grownBy W none → IntsW W a c z → Calls Tryz.prog 65 #[.slice a z.length c, p0, p1, p2] W fun e w' => e = .returned (.bool (F z)) ∧ W.grownBy w' none) :
    Calls Tryz.prog 51 #[.slice ca C.length cc, .func (.func 65) #[] #[p0, p1, p2]] w fun e w' => e = .returned (.int .i64 (ixOf (C.findIdx? F))) ∧ w.grownBy w' none := by
  obtain ⟨n, hnn⟩ : ∃ n, C.length = n := ⟨_, rfl⟩
  have HL := Lib.hid (And.intro hC hnn)
  have HOC := Lib.hid hcl
  rw [hnn] at hn ⊢
  clear hC hnn hcl
  go_enter Tryz.func51, Tryz.ntmps51
  go_wp2_with fail
  go_loopg [8] n (fun gk s8 w' => ∃ k : Nat, s8 = .int .i64 (k : Int) ∧ gk = n - k ∧ k ≤ n ∧ w.grownBy w' none ∧ ∀ j, j < k → ∃ z, C[j]? = some z ∧ F z = false)
  case atStart => exact ⟨0, rfl, rfl, by omega, grown_refl _ _, fun j hj => by omega⟩
  case round =>
    obtain ⟨k, rfl, hgk, hk, hgr, hbef⟩ := hrel
    have HI := Lib.hid (And.intro hgk (And.intro hgr hbef))
    clear hgk hbef hgr
    by_cases hkn : k < n
    · have f1 : decide ((k : Int) < (n : Int)) = true := decide_eq_true (by omega)
      have f1' : decide (k < n) = true := decide_eq_true hkn
      have i0 : (0 : Int) ≤ (k : Int) := by omega
      have i1 : (k : Int) < (n : Int) := by omega
      have k1 : IntKind.i64.wrap ((k : Int) + 1) = (k : Int) + 1 := IntWalk.i64_in _ (by omega)
      obtain ⟨z, hz⟩ : ∃ z, C[k]? = some z := ⟨_, List.getElem?_eq_getElem (by rw [HL.out.2]; exact hkn)⟩
      obtain ⟨bz, oz, az, cz, rfl, hcell, hiz⟩ := (HL.out.1.grown HI.out.2.1).at hz
      have HCALL := Lib.hid (HOC.out z az cz wr (List.mem_of_getElem? hz) HI.out.2.1 hiz)
      have HZ := Lib.hid hz
      obtain ⟨ln, hln⟩ : ∃ x, z.length = x := ⟨_, rfl⟩
      rw [hln] at hcell HCALL
      clear hz hiz hln
      go_wp2_with fail
      refine HCALL.out.mono ?_
      rintro e w1 ⟨rfl, hg1⟩
      have HG := Lib.hid (HI.out.2.1.trans hg1)
      clear hg1
      obtain ⟨B, hB⟩ : ∃ B, F z = B := ⟨_, rfl⟩
      rw [hB]
      have HB := Lib.hid hB
      clear hB
      cases B with
      | true =>
        have HR : Hid (ixOf (C.findIdx? F) = (k : Int)) := Lib.hid (by
          have : C.findIdx? F = some k := by
            rw [List.findIdx?_eq_some_iff_getElem]
            obtain ⟨h1, h2⟩ := List.getElem?_eq_some_iff.1 HZ.out
            refine ⟨h1, by rw [h2]; exact HB.out, fun j hj => ?_⟩
            obtain ⟨y, hy, hf⟩ := HI.out.2.2 j hj
            obtain ⟨h3, h4⟩ := List.getElem?_eq_some_iff.1 hy
            rw [h4, hf]; decide
          rw [this]; rfl)
        go_wp2_with fail
        go_ret
        exact ⟨by rw [HR.out]; rfl, HG.out⟩
      | false =>
        go_wp2_with fail
        go_roundg (n - (k + 1))
        case measure => rw [HI.out.1]; omega
        case rel => exact ⟨k + 1, rfl, rfl, by omega, HG.out, fun j hj => by
          by_cases e : j = k
          · subst e; exact ⟨z, HZ.out, HB.out⟩
          · exact HI.out.2.2 j (by omega)⟩
    · have hkn' : k = n := by omega
      subst hkn'
      have f1 : decide ((k : Int) < (k : Int)) = false := decide_eq_false (by omega)
      have f1' : decide (k < k) = false := decide_eq_false (by omega)
      have HR : Hid (ixOf (C.findIdx? F) = -1) := Lib.hid (by
        have : C.findIdx? F = none := by
          rw [List.findIdx?_eq_none_iff]
          intro y hy
          obtain ⟨j, hj, rfl⟩ := List.getElem_of_mem hy
          obtain ⟨y', hy', hf⟩ := HI.out.2.2 j (by rw [← HL.out.2]; exact hj)
          rw [List.getElem?_eq_getElem hj] at hy'
          cases hy'; exact hf
        rw [this]; rfl)
      go_wp2_with fail
      go_ret
      exact ⟨by rw [HR.out]; rfl, HI.out.2.1⟩
set_option maxHeartbeats 1000000 in
theorem contains65_calls {F : List Int → Bool} {p0 p1 p2 : Value} {w : World} {ca : Option Addr} {cc : Nat} {C : List (List Int)} (hC : ClsW w ca cc C) (hn : C.length ≤ 100000)
    (hcl : ∀ (z : List Int) (a : Option Addr) (c : Nat) (W : World), z ∈ C → w.grownBy W none → IntsW W a c z → Calls Tryz.prog 65 #[.slice a z.length c, p0, p1, p2] W fun e w' => e = .returned (.bool (F z)) ∧ W.grownBy w' none) :
    Calls Tryz.prog 33 #[.slice ca C.length cc, .func (.func 65) #[] #[p0, p1, p2]] w fun e w' => e = .returned (.bool (C.any F)) ∧ w.grownBy w' none := by
  have HC := Lib.hid (index65_calls hC hn hcl)
  have HR := Lib.hid (ixOf_any C F)
  obtain ⟨z, hz⟩ : ∃ z, ixOf (C.findIdx? F) = z := ⟨_, rfl⟩
  rw [hz] at HC HR
  obtain ⟨b, hb⟩ : ∃ b, C.any F = b := ⟨_, rfl⟩
  rw [hb] at HR ⊢
  obtain ⟨m, hm⟩ : ∃ m, C.length = m := ⟨_, rfl⟩
  rw [hm] at HC ⊢
  clear hC hn hcl hz hb hm
  have f1 : decide (z ≥ 0) = b := HR.out
  have f2 : decide (0 ≤ z) = b := HR.out
  go_enter Tryz.func33, Tryz.ntmps33
  go_wp2_with fail
  refine HC.out.mono ?_
  rintro e w1 ⟨rfl, hg⟩
  have HG := Lib.hid hg
  clear hg
  go_wp2_with fail
  go_ret
  exact ⟨rfl, HG.out⟩
set_option maxHeartbeats 2000000 in
theorem index31_calls {F : List Int → Bool} {w : World} {ca : Option Addr} {cc : Nat} {C : List (List Int)} (hC : ClsW w ca cc C) (hn : C.length ≤ 100000)
    (hcl : ∀ (z : List Int) (a : Option Addr) (c : Nat) (W : World), z ∈ C → w.grownBy W none → IntsW W a c z → Calls Tryz.prog 31 #[.slice a z.length c] W fun e w' => e = .returned (.bool (F z)) ∧ W.grownBy w' none) :
    Calls Tryz.prog 51 #[.slice ca C.length cc, .func (.func 31) #[] #[]] w fun e w' => e = .returned (.int .i64 (ixOf (C.findIdx? F))) ∧ w.grownBy w' none := by
  obtain ⟨n, hnn⟩ : ∃ n, C.length = n := ⟨_, rfl⟩
  have HL := Lib.hid (And.intro hC hnn)
  have HOC := Lib.hid hcl
  rw [hnn] at hn ⊢
  clear hC hnn hcl
  go_enter Tryz.func51, Tryz.ntmps51
  go_wp2_with fail
  go_loopg [8] n (fun gk s8 w' => ∃ k : Nat, s8 = .int .i64 (k : Int) ∧ gk = n - k ∧ k ≤ n ∧ w.grownBy w' none ∧ ∀ j, j < k → ∃ z, C[j]? = some z ∧ F z = false)
  case atStart => exact ⟨0, rfl, rfl, by omega, grown_refl _ _, fun j hj => by omega⟩
  case round =>
    obtain ⟨k, rfl, hgk, hk, hgr, hbef⟩ := hrel
    have HI := Lib.hid (And.intro hgk (And.intro hgr hbef))
    clear hgk hbef hgr
    by_cases hkn : k < n
    · have f1 : decide ((k : Int) < (n : Int)) = true := decide_eq_true (by omega)
      have f1' : decide (k < n) = true := decide_eq_true hkn
      have i0 : (0 : Int) ≤ (k : Int) := by omega
      have i1 : (k : Int) < (n : Int) := by omega
      have k1 : IntKind.i64.wrap ((k : Int) + 1) = (k : Int) + 1 := IntWalk.i64_in _ (by omega)
      obtain ⟨z, hz⟩ : ∃ z, C[k]? = some z := ⟨_, List.getElem?_eq_getElem (by rw [HL.out.2]; exact hkn)⟩
      obtain ⟨bz, oz, az, cz, rfl, hcell, hiz⟩ := (HL.out.1.grown HI.out.2.1).at hz
      have HCALL := Lib.hid (HOC.out z az cz wr (List.mem_of_getElem? hz) HI.out.2.1 hiz)
      have HZ := Lib.hid hz
      obtain ⟨ln, hln⟩ : ∃ x, z.length = x := ⟨_, rfl⟩
      rw [hln] at hcell HCALL
      clear hz hiz hln
      go_wp2_with fail
      refine HCALL.out.mono ?_
      rintro e w1 ⟨rfl, hg1⟩
      have HG := Lib.hid (HI.out.2.1.trans hg1)
      clear hg1
      obtain ⟨B, hB⟩ : ∃ B, F z = B := ⟨_, rfl⟩
      rw [hB]
      have HB := Lib.hid hB
      clear hB
      cases B with
      | true =>
        have HR : Hid (ixOf (C.findIdx? F) = (k : Int)) := Lib.hid (by
          have : C.findIdx? F = some k := by
            rw [List.findIdx?_eq_some_iff_getElem]
            obtain ⟨h1, h2⟩ := List.getElem?_eq_some_iff.1 HZ.out
            refine ⟨h1, by rw [h2]; exact HB.out, fun j hj => ?_⟩
            obtain ⟨y, hy, hf⟩ := HI.out.2.2 j hj
            obtain ⟨h3, h4⟩ := List.getElem?_eq_some_iff.1 hy
            rw [h4, hf]; decide
          rw [this]; rfl)
        go_wp2_with fail
        go_ret
        exact ⟨by rw [HR.out]; rfl, HG.out⟩
      | false =>
        go_wp2_with fail
        go_roundg (n - (k + 1))
        case measure => rw [HI.out.1]; omega
        case rel => exact ⟨k + 1, rfl, rfl, by omega, HG.out, fun j hj => by
          by_cases e : j = k
          · subst e; exact ⟨z, HZ.out, HB.out⟩
          · exact HI.out.2.2 j (by omega)⟩
    · have hkn' : k = n := by omega
      subst hkn'
      have f1 : decide ((k : Int) < (k : Int)) = false := decide_eq_false (by omega)
      have f1' : decide (k < k) = false := decide_eq_false (by omega)
      have HR : Hid (ixOf (C.findIdx? F) = -1) := Lib.hid (by
        have : C.findIdx? F = none := by
          rw [List.findIdx?_eq_none_iff]
          intro y hy
          obtain ⟨j, hj, rfl⟩ := List.getElem_of_mem hy
          obtain ⟨y', hy', hf⟩ := HI.out.2.2 j (by rw [← HL.out.2]; exact hj)
          rw [List.getElem?_eq_getElem hj] at hy'
          cases hy'; exact hf
        rw [this]; rfl)
      go_wp2_with fail
      go_ret
      exact ⟨by rw [HR.out]; rfl, HI.out.2.1⟩
set_option maxHeartbeats 1000000 in
theorem contains31_calls {F : List Int → Bool} {w : World} {ca : Option Addr} {cc : Nat} {C : List (List Int)} (hC : ClsW w ca cc C) (hn : C.length ≤ 100000)
    (hcl : ∀ (z : List Int) (a : Option Addr) (c : Nat) (W : World), z ∈ C → w.grownBy W none → IntsW W a c z → Calls Tryz.prog 31 #[.slice a z.length c] W fun e w' => e = .returned (.bool (F z)) ∧ W.grownBy w' none) :
    Calls Tryz.prog 33 #[.slice ca C.length cc, .func (.func 31) #[] #[]] w fun e w' => e = .returned (.bool (C.any F)) ∧ w.grownBy w' none := by
  have HC := Lib.hid (index31_calls hC hn hcl)
  have HR := Lib.hid (ixOf_any C F)
  obtain ⟨z, hz⟩ : ∃ z, ixOf (C.findIdx? F) = z := ⟨_, rfl⟩
  rw [hz] at HC HR
  obtain ⟨b, hb⟩ : ∃ b, C.any F = b := ⟨_, rfl⟩
  rw [hb] at HR ⊢
  obtain ⟨m, hm⟩ : ∃ m, C.length = m := ⟨_, rfl⟩
  rw [hm] at HC ⊢
  clear hC hn hcl hz hb hm
  have f1 : decide (z ≥ 0) = b := HR.out
  have f2 : decide (0 ≤ z) = b := HR.out
  go_enter Tryz.func33, Tryz.ntmps33
  go_wp2_with fail
  refine HC.out.mono ?_
  rintro e w1 ⟨rfl, hg⟩
  have HG := Lib.hid hg
  clear hg
  go_wp2_with fail
  go_ret
  exact ⟨rfl, HG.out⟩
end Go.Proofs.YtihaheinkpmnnaaGreat

namespace Go.Proofs.YtihaheinkpmnnaaGreat
set_option maxRecDepth 200000
open Go.RowKit
set_option maxHeartbeats 1000000 in
theorem cwithin_calls (V : Int) (L : List Int) (a : Option Addr) (c : Nat) (w : World) (h : IntsW w a c L) (hl : L.length ≤ 100000) (hV : -1000000 ≤ V ∧ V ≤ 9000000000000000000) :
    Calls Tryz.prog 35 #[.slice a L.length c, .int .i64 V] w fun e w' => e = .returned (.bool (L.all (inRb V))) ∧ w.grownBy w' none := by
  obtain ⟨W1, hW1⟩ : ∃ z, w.alloc (.cells #[.int .i64 V] 3) = z := ⟨_, rfl⟩
  obtain ⟨bf, hbf⟩ : ∃ z, w.heap.size = z := ⟨_, rfl⟩
  have hc1 : W1.cell? ⟨bf, 0, none⟩ = some (.int .i64 V) := by rw [← hW1, ← hbf]; have := cell_one_new w (.int .i64 V) 3 0 _ rfl; rwa [add_at] at this
  have hg : w.grownBy W1 none := by rw [← hW1]; exact World.grownBy_alloc w _ _
  have HC := Lib.hid (contains54_calls (F := fun x => !inRb V x) (h.grown hg) hl (fun x _ => inside1_calls V x bf W1 hc1 hV))
  have HG := Lib.hid hg
  have HA := Lib.hid (show (!(L.any fun x => !inRb V x)) = L.all (inRb V) by rw [List.not_any_eq_all_not]; simp)
  obtain ⟨d, hd⟩ : ∃ d, (L.any fun x => !inRb V x) = d := ⟨_, rfl⟩
  rw [hd] at HC HA
  rw [← HA.out]
  have hmf : ∀ (fn : Fn) (first cap : Array Value) (w : World), (Instr.makeFunc fn first cap).run Tryz.prog w = .ok (.func fn first cap) w := fun _ _ _ _ => rfl
  clear h hc1 hg hd HA
  go_enter Tryz.func35, Tryz.ntmps35
  go_wp2_with fail
  refine HC.out.mono ?_
  rintro e w1 ⟨rfl, rfl⟩
  go_wp2_with fail
  go_ret
  exact ⟨rfl, HG.out⟩
end Go.Proofs.YtihaheinkpmnnaaGreat

namespace Go.Proofs.YtihaheinkpmnnaaGreat
set_option maxRecDepth 200000
open Go.RowKit Go.Shelf
theorem own_base {w : World} {B B' n size : Nat} {e : TypeId} {v : Value} {xs : List Value} (h : w.ownsRow B e size v n xs) (hb : B' ≤ B) : w.ownsRow B' e size v n xs :=
  ⟨h.1, h.2.imp id fun ⟨g, cap, cur, e1, h2, h3⟩ => ⟨g, cap, cur, e1, by omega, h3⟩⟩
theorem normal_own {L : List Int} {a : Option Addr} {c : Nat} (hl : L.length ≤ 100000) (w : World) (h : IntsW w a c L) :
    Calls Tryz.prog 36 #[.slice a L.length c] w fun e w' => ∃ p : Nr, e = .returned (encP p) ∧ p.2.2 = normL L ∧ OwnP w' p ∧ w.grownBy w' none ∧ ∀ b, (encP p).ownBlock = some b → w.heap.size ≤ b := by
  refine (normal_calls hl w h).mono ?_
  rintro e w' ⟨v, rfl, h1, h2⟩
  obtain ⟨a', c', rfl, h3, h4⟩ := own_intsW h1
  exact ⟨(a', c', normL L), rfl, rfl, ⟨own_base h1 (Nat.zero_le _), by have := norm_le L; simp only; omega⟩, h2, own_low' h1⟩
theorem RowP.grown {w w' : World} {B g cap n : Nat} {ps : List Nr} (h : RowP w B g cap n ps) (hg : w.grownBy w' none) : RowP w' B g cap n ps :=
  ⟨h.1.kept hg (.inr (by simp [Value.ownBlock])), fun p hp => (h.2 p hp).grown hg⟩
set_option maxHeartbeats 4000000 in
theorem sym1_calls (w : World) (b8 b3 : Nat) (B g cap n : Nat) (ps : List Nr) (h : RowP w B g cap n ps) (hn : n ≤ 100000) (hs : SrtP ps) (S : List Int) (sa : Option Addr) (sc : Nat) (hS : IntsW w sa sc S)
    (c8 : w.cell? ⟨b8, 0, none⟩ = some (.slice (some ⟨g, 0, none⟩) n cap)) (c3 : w.cell? ⟨b3, 0, none⟩ = some (.slice sa S.length sc))
    (hsl : S.length ≤ 10000) (hb : ∀ y ∈ S, -1000000 ≤ y ∧ y ≤ 1000000) (z : List Int) (za : Option Addr) (zc : Nat) (hz : IntsW w za zc z) (hl : z.length ≤ 10000) (hr : ∀ x ∈ z, InR S.length x) :
    Calls Tryz.prog 39 #[.slice za z.length zc, .pointer (some ⟨b8, 0, none⟩), .pointer (some ⟨b3, 0, none⟩)] w fun e w' => e = .returned (.bool (!decide (∃ p ∈ ps, p.2.2 = normL (imgL S z)))) ∧ w.grownBy w' none := by
  obtain ⟨d, hd⟩ : ∃ d, decide (∃ p ∈ ps, p.2.2 = normL (imgL S z)) = d := ⟨_, rfl⟩
  obtain ⟨sn, hsn⟩ : ∃ n, S.length = n := ⟨_, rfl⟩
  obtain ⟨zn, hzn⟩ : ∃ n, z.length = n := ⟨_, rfl⟩
  have HI : Hid (∀ W, w.grownBy W none → Calls Tryz.prog 41 #[.slice sa sn sc, .slice za zn zc] W fun e w' => ∃ a1 c1 k, e = .returned (.slice a1 k c1) ∧ IntsW w' a1 c1 (imgL S z) ∧ (imgL S z).length = k ∧ w.grownBy w' none) := Lib.hid (fun W hg => by
    have := image_calls S sa sc z za zc W (hS.grown hg) (hz.grown hg) hl hsl hb hr
    rw [hsn, hzn] at this
    exact this.mono fun e w' ⟨a, c, e1, h1, h2⟩ => ⟨a, c, zn, e1, h1, by unfold imgL; rw [List.length_map, hzn], hg.trans h2⟩)
  have HN : Hid (∀ W a1 c1 k, w.grownBy W none → IntsW W a1 c1 (imgL S z) → (imgL S z).length = k → Calls Tryz.prog 36 #[.slice a1 k c1] W fun e w' => ∃ p : Nr, e = .returned (encP p) ∧ p.2.2 = normL (imgL S z) ∧ OwnP w' p ∧ w.grownBy w' none) := Lib.hid (fun W a1 c1 k hg h1 h2 => by
    subst h2
    exact (normal_own (by unfold imgL; rw [List.length_map]; omega) W h1).mono fun e w' ⟨p, e1, e2, e3, e4, _⟩ => ⟨p, e1, e2, e3, hg.trans e4⟩)
  have HB : Hid (∀ W (p : Nr), w.grownBy W none → p.2.2 = normL (imgL S z) → OwnP W p → Calls Tryz.prog 40 #[.slice (some ⟨g, 0, none⟩) n cap, encP p, .func (.func 38) #[] #[]] W fun e w' => (∃ i : Int, e = .returned (.tuple #[.int .i64 i, .bool d])) ∧ w.grownBy w' none) := Lib.hid (fun W p hg h1 h2 => by
    have := search40_calls W B g cap n ps (h.grown hg) hn hs p h2
    rw [h1, hd] at this
    exact this.mono fun e w' ⟨h3, h4⟩ => ⟨h3, hg.trans h4⟩)
  rw [hsn] at c3
  rw [hzn, hd]
  have C8 := Lib.hid c8
  have C3 := Lib.hid c3
  clear h hn hs hS hsl hb hz hl hr hd hsn hzn
  go_enter Tryz.func39, Tryz.ntmps39
  go_wp2_with fail
  go_region_held3 (fun w' => w.grownBy w' none ∧ w'.cell? ⟨b8, 0, none⟩ = some (.slice (some ⟨g, 0, none⟩) n cap) ∧ w'.cell? ⟨b3, 0, none⟩ = some (.slice sa sn sc))
    (first | exact ⟨grown_drew w none, c8, c3⟩ | (go_split_ands; exact ⟨by assumption, by assumption, by assumption⟩) | exact ⟨g7, g7.cell C8.out (by simp), g7.cell C3.out (by simp)⟩)
    (first
      | (go_at_call 41; refine (HI.out _ (by go_split_ands; assumption)).mono ?_; rintro e wa ⟨a1, c1, k, rfl, yi, yk, g7⟩)
      | (go_at_call 36; refine (HN.out _ a1 c1 k (by go_split_ands; assumption) (by first | exact yi | assumption) yk).mono ?_; rintro e wb ⟨p, rfl, yp, yo, g7⟩)
      | (go_at_call 40; refine (HB.out _ p (by go_split_ands; assumption) yp (by first | exact yo | assumption)).mono ?_; rintro e wc ⟨⟨i, rfl⟩, g7⟩))
  have HE := Lib.hid g7
  clear g7 yi yo yp
  go_wp2_with fail
  go_ret
  exact ⟨rfl, HE.out⟩
end Go.Proofs.YtihaheinkpmnnaaGreat
