/- The reference's index of a time. -/
import Derived.Test.YtbddpjofhddilaaN07
namespace Go.Proofs.Ytbddpjofhddilaa
open Go.RowKit

set_option maxRecDepth 100000 in
set_option maxHeartbeats 1000000 in
theorem rIndex_calls (sa : Option Addr) (n sc : Nat) (st : Int) (ta : Option Addr) (k tc : Nat) (lp : Int) (t : Int) (w : World) (hk : k ≤ 64) (hl0 : 0 ≤ lp) (hl1 : lp < (k : Int)) (ht0 : 0 ≤ t) (ht1 : t ≤ 9223372036854775807) :
    Calls Try.prog 81 #[.agg #[.slice sa n sc, .int .i64 st, .slice ta k tc, .int .i64 lp], .int .i64 t] w fun e w' => e = .returned (.int .i64 (indexI k lp t)) ∧ w.grownBy w' none := by
  have HG := Lib.hid (World.grownBy_alloc w (.cells #[.slice sa n sc, .int .i64 st, .slice ta k tc, .int .i64 lp] 33) none)
  by_cases c0 : t < (k : Int)
  · have HR : Hid (indexI k lp t = t) := Lib.hid (by unfold indexI; rw [if_pos c0])
    have f0 : decide (t < (k : Int)) = true := decide_eq_true c0
    clear c0
    go_enter Try.func81, Try.ntmps81
    go_wp2_with fail
    go_ret
    exact ⟨by rw [HR.out]; rfl, HG.out⟩
  have HR : Hid (indexI k lp t = lp + (t - lp) % ((k : Int) - lp)) := Lib.hid (by unfold indexI; rw [if_neg c0])
  have f0 : decide (t < (k : Int)) = false := decide_eq_false c0
  obtain ⟨D, hD⟩ : ∃ D, (k : Int) - lp = D := ⟨_, rfl⟩
  obtain ⟨T, hT⟩ : ∃ T, t - lp = T := ⟨_, rfl⟩
  rw [hD, hT] at HR
  have hD1 : 1 ≤ D := by omega
  have hD2 : D ≤ 64 := by omega
  have hT1 : 0 ≤ T := by omega
  have hT2 : T ≤ 9223372036854775807 := by omega
  have hm0 : 0 ≤ T % D := Int.emod_nonneg T (by omega)
  have hm1 : T % D < D := Int.emod_lt_of_pos T (by omega)
  have hm2 : lp + T % D ≤ 9223372036854775807 := by omega
  have hm3 : -9223372036854775808 ≤ lp + T % D := by omega
  have hDn : (D == 0) = false := by simp; omega
  have hDn2 : D ≠ 0 := by omega
  have hDn3 : ¬ D = -1 := by omega
  clear c0
  go_enter Try.func81, Try.ntmps81
  go_wp2_with fail
  go_quiet (fail)
  go_wp2_with fail
  go_ret
  exact ⟨by rw [HR.out]; rfl, HG.out.trans (grown_drewN _ _ _)⟩

end Go.Proofs.Ytbddpjofhddilaa
