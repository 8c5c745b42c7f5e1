/- A builder: a box with a growing circuit. -/
import Derived.Test.YthagoihpppppkaaM7
import Derived.Test.YthagoihpppppkaaN3
namespace Go.Proofs.Ythagoihpppppkaa
section
open Go.RowKit Go.Maps

set_option maxHeartbeats 1000000 in
theorem newb_calls (gs : List Gt) (a : Option Addr) (c : Nat) (w : World) (h : GatesW w a c gs) :
    Calls Try.prog 34 #[.agg #[.slice a gs.length c]] w fun e w' => ∃ q p, e = .returned (.pointer (some ⟨q, 0, none⟩)) ∧ w.heap.size ≤ p ∧ w.heap.size ≤ q ∧ p ≠ q ∧ w'.cell? ⟨q, 0, none⟩ = some (.pointer (some ⟨p, 0, none⟩)) ∧ GX p (fun k => k = p) w' gs 0 ∧ w.grownBy w' none := by
  have HF := Lib.hid (fun (U : World) (hU : GatesW U a c gs) => from_calls gs a c U hU)
  have HH := Lib.hid h
  clear h
  go_enter Try.func34, Try.ntmps34
  go_wp2_with fail
  have hg1 := World.grownBy_alloc w (.cells #[.slice a gs.length c] 32) none
  obtain ⟨W, hW⟩ : ∃ z, w.alloc (.cells #[.slice a gs.length c] 32) = z := ⟨_, rfl⟩
  rw [hW] at hg1 ⊢
  clear hW
  have HG1 := Lib.hid hg1
  refine (HF.out W (HH.out.grown hg1)).mono ?_
  rintro e w2 ⟨p, rfl, hp, hgr, hg2⟩
  have HP := Lib.hid hp
  have HGR := Lib.hid hgr
  have HG2 := Lib.hid (World.grownBy.trans hg1 hg2)
  clear hg1 hg2 hgr hp
  go_wp2_with fail
  go_ret
  have hb := one_cell w2 (.pointer (some ⟨p, 0, none⟩)) 65
  have hga := World.grownBy_alloc w2 (.cells #[.pointer (some ⟨p, 0, none⟩)] 65) none
  have hpl : p < w2.heap.size := lies_lt HGR.out.c0
  exact ⟨w2.heap.size, p, rfl, Nat.le_trans HG1.out.size HP.out, HG2.out.size, by omega, hb.2.1, (GX.of HGR.out).grown hga, World.grownBy.trans HG2.out hga⟩
end
section
open Go.RowKit Go.Maps

set_option maxHeartbeats 1000000 in
theorem reached_calls (u : List Int) (k : Int) (a : Option Addr) (c : Nat) (w : World) (h : IntsW w a c u) (_hl : u.length ≤ 1000) (hk : -1000000 ≤ k ∧ k ≤ 1000000) :
    Calls Try.prog 42 #[.slice a u.length c, .int .i64 k] w fun e w' => e = .returned (.int .i64 (reachL u k)) ∧ w' = w := by
  obtain ⟨m, hm⟩ : ∃ m, u.length = m := ⟨_, rfl⟩
  have HM := Lib.hid hm
  have HH := Lib.hid h
  rw [hm] at _hl ⊢
  clear h hm
  by_cases h1 : k < 1
  · have HR := Lib.hid (show reachL u k = 0 by unfold reachL; rw [if_pos h1])
    have f1 : decide (k < 1) = true := decide_eq_true h1
    go_enter Try.func42, Try.ntmps42
    go_wp2_with fail
    go_ret
    exact ⟨by rw [HR.out]; rfl, rfl⟩
  · have f1 : decide (k < 1) = false := decide_eq_false h1
    by_cases h2 : (m : Int) < k
    · have HR := Lib.hid (show reachL u k = 1 by unfold reachL; rw [if_neg h1, HM.out, if_pos h2])
      have f2 : decide ((m : Int) < k) = true := decide_eq_true h2
      go_enter Try.func42, Try.ntmps42
      go_wp2_with fail
      go_ret
      exact ⟨by rw [HR.out]; rfl, rfl⟩
    · obtain ⟨j, hj⟩ : ∃ j : Nat, k - 1 = (j : Int) := ⟨(k - 1).toNat, by omega⟩
      have hjm : j < m := by omega
      obtain ⟨r, hr⟩ : ∃ r, u[j]? = some r := ⟨_, List.getElem?_eq_getElem (by rw [HM.out]; exact hjm)⟩
      have HR := Lib.hid (show reachL u k = r by unfold reachL; rw [if_neg h1, HM.out, if_neg h2, hj, List.getD_eq_getElem?_getD, show ((j : Int)).toNat = j by omega, hr]; rfl)
      have f2 : decide ((m : Int) < k) = false := decide_eq_false h2
      obtain ⟨b, o, rfl, x0⟩ := HH.out.at hr
      have hw : IntKind.i64.wrap (k - 1) = (j : Int) := by rw [IntWalk.i64_in _ (by omega)]; exact hj
      have hi0 : (0 : Int) ≤ (j : Int) := by omega
      have hi1 : (j : Int) < (m : Int) := by omega
      clear hj hr
      go_enter Try.func42, Try.ntmps42
      go_wp2_with fail
      go_ret
      exact ⟨by rw [HR.out]; rfl, rfl⟩
set_option maxHeartbeats 1000000 in
theorem reach_calls (u : List Int) (k : Int) (a : Option Addr) (c : Nat) (w : World) (h : IntsW w a c u) (_hl : u.length ≤ 1000) (hk : -1000000 ≤ k ∧ k ≤ 1000000) :
    Calls Try.prog 58 #[.slice a u.length c, .int .i64 k] w fun e w' => e = .returned (.int .i64 (reachL u k)) ∧ w' = w := by
  obtain ⟨m, hm⟩ : ∃ m, u.length = m := ⟨_, rfl⟩
  have HM := Lib.hid hm
  have HH := Lib.hid h
  rw [hm] at _hl ⊢
  clear h hm
  by_cases h1 : k < 1
  · have HR := Lib.hid (show reachL u k = 0 by unfold reachL; rw [if_pos h1])
    have f1 : decide (k ≤ 0) = true := decide_eq_true (by omega)
    go_enter Try.func58, Try.ntmps58
    go_wp2_with fail
    go_ret
    exact ⟨by rw [HR.out]; rfl, rfl⟩
  · have f1 : decide (k ≤ 0) = false := decide_eq_false (by omega)
    by_cases h2 : (m : Int) < k
    · have HR := Lib.hid (show reachL u k = 1 by unfold reachL; rw [if_neg h1, HM.out, if_pos h2])
      have f2 : decide ((m : Int) < k) = true := decide_eq_true h2
      go_enter Try.func58, Try.ntmps58
      go_wp2_with fail
      go_ret
      exact ⟨by rw [HR.out]; rfl, rfl⟩
    · obtain ⟨j, hj⟩ : ∃ j : Nat, k - 1 = (j : Int) := ⟨(k - 1).toNat, by omega⟩
      have hjm : j < m := by omega
      obtain ⟨r, hr⟩ : ∃ r, u[j]? = some r := ⟨_, List.getElem?_eq_getElem (by rw [HM.out]; exact hjm)⟩
      have HR := Lib.hid (show reachL u k = r by unfold reachL; rw [if_neg h1, HM.out, if_neg h2, hj, List.getD_eq_getElem?_getD, show ((j : Int)).toNat = j by omega, hr]; rfl)
      have f2 : decide ((m : Int) < k) = false := decide_eq_false h2
      obtain ⟨b, o, rfl, x0⟩ := HH.out.at hr
      have hw : IntKind.i64.wrap (k - 1) = (j : Int) := by rw [IntWalk.i64_in _ (by omega)]; exact hj
      have hi0 : (0 : Int) ≤ (j : Int) := by omega
      have hi1 : (j : Int) < (m : Int) := by omega
      clear hj hr
      go_enter Try.func58, Try.ntmps58
      go_wp2_with fail
      go_ret
      exact ⟨by rw [HR.out]; rfl, rfl⟩
end
end Go.Proofs.Ythagoihpppppkaa
