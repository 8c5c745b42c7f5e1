/- Not, three times. -/
import Derived.Test.YthagoihpppppkaaG0
namespace Go.Proofs.Ythagoihpppppkaa
open Go.RowKit

theorem nat_xor1 (x : Nat) : x ^^^ 1 = if x % 2 = 0 then x + 1 else x - 1 := by
  have h1 : (x ^^^ 1) / 2 = x / 2 := by rw [Nat.xor_div_two]; simp
  have h2 : (x ^^^ 1) % 2 = (x % 2) ^^^ 1 := by
    have := Nat.xor_mod_two_pow (a := x) (b := 1) (n := 1)
    simpa using this
  rcases Nat.mod_two_eq_zero_or_one x with h | h
  · rw [h] at h2
    rw [if_pos h]
    have : (0 : Nat) ^^^ 1 = 1 := by decide
    omega
  · rw [h] at h2
    rw [if_neg (by omega)]
    have : (1 : Nat) ^^^ 1 = 0 := by decide
    omega
theorem xor1 {r : Int} (h0 : 0 ≤ r) (h2 : r ≤ 9223372036854775807) : bits .xor .i64 r 1 = notR r := by
  obtain ⟨x, rfl⟩ : ∃ x : Nat, r = (x : Int) := ⟨r.toNat, by omega⟩
  show IntKind.i64.wrap ((BitVec.ofInt 64 (x : Int) ^^^ BitVec.ofInt 64 1).toNat : Int) = _
  have e1 : (BitVec.ofInt 64 (1 : Int)).toNat = 1 := by decide
  have e2 : (BitVec.ofInt 64 (x : Int)).toNat = x := by
    rw [BitVec.ofInt_natCast, BitVec.toNat_ofNat]; exact Nat.mod_eq_of_lt (by omega)
  rw [BitVec.toNat_xor, e1, e2, nat_xor1, IntKind.wrap_i64]
  by_cases h3 : x % 2 = 0
  · rw [if_pos h3, notR_even h0 (by omega)]; omega
  · rw [if_neg h3, notR_odd h0 (by omega)]; omega
theorem not43_calls (r : Int) (w : World) (h2 : r ≤ 9223372036854775807) : Calls Try.prog 53 #[.int .i64 r] w fun e w' => e = .returned (.int .i64 (notR r)) ∧ w' = w := by
  by_cases h0 : r < 0
  · have f : decide (r < 0) = true := decide_eq_true h0
    have HN := Lib.hid (show notR r = -1 by unfold notR; rw [if_pos h0])
    clear h0
    go_enter Try.func53, Try.ntmps53
    go_wp2_with fail
    go_ret
    exact ⟨by rw [HN.out]; rfl, rfl⟩
  · have f : decide (r < 0) = false := decide_eq_false h0
    have HX := Lib.hid (xor1 (by omega) h2)
    clear h0
    go_enter Try.func53, Try.ntmps53
    go_wp2_with fail
    go_ret
    exact ⟨by rw [← HX.out]; rfl, rfl⟩
theorem not25_calls (r : Int) (w : World) (h2 : r ≤ 9223372036854775807) : Calls Try.prog 45 #[.int .i64 r] w fun e w' => e = .returned (.int .i64 (notR r)) ∧ w' = w := by
  go_enter Try.func45, Try.ntmps45
  go_wp2_with (go_at_call 53; refine (not43_calls r _ h2).mono ?_; rintro e w2 ⟨rfl, hw2⟩; rw [hw2]; clear hw2 w2)
  go_ret
  exact ⟨rfl, rfl⟩
theorem not26_calls (r : Int) (w : World) (h2 : r ≤ 9223372036854775807) : Calls Try.prog 31 #[.int .i64 r] w fun e w' => e = .returned (.int .i64 (notR r)) ∧ w' = w := by
  by_cases h0 : r < 0
  · have f : decide (r < 0) = true := decide_eq_true h0
    have HN := Lib.hid (show notR r = -1 by unfold notR; rw [if_pos h0])
    clear h0
    go_enter Try.func31, Try.ntmps31
    go_wp2_with fail
    go_ret
    exact ⟨by rw [HN.out]; rfl, rfl⟩
  · have f : decide (r < 0) = false := decide_eq_false h0
    obtain ⟨x, rfl⟩ : ∃ x : Nat, r = (x : Int) := ⟨r.toNat, by omega⟩
    by_cases h3 : x % 2 = 0
    · have hm : (x : Int).tmod 2 = 0 := by rw [Int.tmod_eq_emod_of_nonneg (by omega)]; omega
      have hw : IntKind.i64.wrap ((x : Int) + 1) = (x : Int) + 1 := IntWalk.i64_in _ (by omega)
      have HN := Lib.hid (notR_even (r := (x : Int)) (by omega) (by omega))
      go_enter Try.func31, Try.ntmps31
      go_wp2_with fail
      go_ret
      exact ⟨by rw [HN.out]; rfl, rfl⟩
    · have hm : (x : Int).tmod 2 = 1 := by rw [Int.tmod_eq_emod_of_nonneg (by omega)]; omega
      have hw : IntKind.i64.wrap ((x : Int) - 1) = (x : Int) - 1 := IntWalk.i64_in _ (by omega)
      have HN := Lib.hid (notR_odd (r := (x : Int)) (by omega) (by omega))
      go_enter Try.func31, Try.ntmps31
      go_wp2_with fail
      go_ret
      exact ⟨by rw [HN.out]; rfl, rfl⟩
end Go.Proofs.Ythagoihpppppkaa
