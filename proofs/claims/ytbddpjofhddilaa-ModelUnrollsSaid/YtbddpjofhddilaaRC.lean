/- Looped models, the next state, the index of a time. -/
import Derived.Test.YtbddpjofhddilaaRB
namespace Go.Proofs.Ytbddpjofhddilaa
open Go.RowKit

def loopedB (k : Nat) (lp : Int) : Bool := decide (1 ≤ k) && decide (k ≤ 64) && decide (0 ≤ lp) && decide (lp < (k : Int))
theorem loopedB_iff {k : Nat} {lp : Int} : loopedB k lp = true ↔ 1 ≤ k ∧ k ≤ 64 ∧ 0 ≤ lp ∧ lp < (k : Int) := by simp [loopedB, and_assoc]
def nextI (k : Nat) (lp s : Int) : Int := if s < 0 ∨ (k : Int) ≤ s then 0 else if s = (k : Int) - 1 then lp else s + 1
def indexI (k : Nat) (lp t : Int) : Int := if t < (k : Int) then t else lp + (t - lp) % ((k : Int) - lp)

set_option maxRecDepth 100000 in
set_option maxHeartbeats 1000000 in
theorem looped_calls (sa : Option Addr) (n sc : Nat) (st : Int) (ta : Option Addr) (k tc : Nat) (lp : Int) (w : World) :
    Calls Try.prog 64 #[.agg #[.slice sa n sc, .int .i64 st, .slice ta k tc, .int .i64 lp]] w fun e w' => e = .returned (.bool (loopedB k lp)) ∧ w.grownBy w' none := by
  have HG := Lib.hid (World.grownBy_alloc w (.cells #[.slice sa n sc, .int .i64 st, .slice ta k tc, .int .i64 lp] 33) none)
  by_cases c0 : k = 0
  · have HR : Hid (loopedB k lp = false) := Lib.hid (by cases h : loopedB k lp with | false => rfl | true => have := loopedB_iff.1 h; omega)
    subst c0
    skip
    go_enter Try.func64, Try.ntmps64
    go_wp2_with fail
    go_ret
    exact ⟨by rw [HR.out]; rfl, HG.out⟩
  have f00 : decide (0 < k) = true := decide_eq_true (by omega)
  have f01 : decide ((0 : Int) < (k : Int)) = true := decide_eq_true (by omega)
  have f02 : decide (1 ≤ k) = true := decide_eq_true (by omega)
  have f03 : decide ((1 : Int) ≤ (k : Int)) = true := decide_eq_true (by omega)
  by_cases c1 : 64 < k
  · have HR : Hid (loopedB k lp = false) := Lib.hid (by cases h : loopedB k lp with | false => rfl | true => have := loopedB_iff.1 h; omega)
    have f10 : decide (k ≤ 64) = false := decide_eq_false (by omega)
    have f11 : decide ((k : Int) ≤ 64) = false := decide_eq_false (by omega)
    clear c0 c1
    go_enter Try.func64, Try.ntmps64
    go_wp2_with fail
    go_ret
    exact ⟨by rw [HR.out]; rfl, HG.out⟩
  have f10 : decide (k ≤ 64) = true := decide_eq_true (by omega)
  have f11 : decide ((k : Int) ≤ 64) = true := decide_eq_true (by omega)
  by_cases c2 : lp < 0
  · have HR : Hid (loopedB k lp = false) := Lib.hid (by cases h : loopedB k lp with | false => rfl | true => have := loopedB_iff.1 h; omega)
    have f20 : decide (0 ≤ lp) = false := decide_eq_false (by omega)
    clear c0 c1 c2
    go_enter Try.func64, Try.ntmps64
    go_wp2_with fail
    go_ret
    exact ⟨by rw [HR.out]; rfl, HG.out⟩
  have f20 : decide (0 ≤ lp) = true := decide_eq_true (by omega)
  by_cases c3 : (k : Int) ≤ lp
  · have HR : Hid (loopedB k lp = false) := Lib.hid (by cases h : loopedB k lp with | false => rfl | true => have := loopedB_iff.1 h; omega)
    have f30 : decide (lp < (k : Int)) = false := decide_eq_false (by omega)
    clear c0 c1 c2 c3
    go_enter Try.func64, Try.ntmps64
    go_wp2_with fail
    go_ret
    exact ⟨by rw [HR.out]; rfl, HG.out⟩
  have f30 : decide (lp < (k : Int)) = true := decide_eq_true (by omega)
  have HR : Hid (loopedB k lp = true) := Lib.hid (loopedB_iff.2 (by omega))
  clear c0 c1 c2 c3
  go_enter Try.func64, Try.ntmps64
  go_wp2_with fail
  go_ret
  exact ⟨by rw [HR.out]; rfl, HG.out⟩

set_option maxRecDepth 100000 in
set_option maxHeartbeats 1000000 in
theorem rLooped_calls (sa : Option Addr) (n sc : Nat) (st : Int) (ta : Option Addr) (k tc : Nat) (lp : Int) (w : World) :
    Calls Try.prog 22 #[.agg #[.slice sa n sc, .int .i64 st, .slice ta k tc, .int .i64 lp]] w fun e w' => e = .returned (.bool (loopedB k lp)) ∧ w.grownBy w' none := by
  have HG := Lib.hid (World.grownBy_alloc w (.cells #[.slice sa n sc, .int .i64 st, .slice ta k tc, .int .i64 lp] 33) none)
  by_cases c0 : k = 0
  · have HR : Hid (loopedB k lp = false) := Lib.hid (by cases h : loopedB k lp with | false => rfl | true => have := loopedB_iff.1 h; omega)
    subst c0
    skip
    go_enter Try.func22, Try.ntmps22
    go_wp2_with fail
    go_ret
    exact ⟨by rw [HR.out]; rfl, HG.out⟩
  have f00 : decide (0 < k) = true := decide_eq_true (by omega)
  have f01 : decide ((0 : Int) < (k : Int)) = true := decide_eq_true (by omega)
  have f02 : decide (1 ≤ k) = true := decide_eq_true (by omega)
  have f03 : decide ((1 : Int) ≤ (k : Int)) = true := decide_eq_true (by omega)
  by_cases c1 : 64 < k
  · have HR : Hid (loopedB k lp = false) := Lib.hid (by cases h : loopedB k lp with | false => rfl | true => have := loopedB_iff.1 h; omega)
    have f10 : decide (k ≤ 64) = false := decide_eq_false (by omega)
    have f11 : decide ((k : Int) ≤ 64) = false := decide_eq_false (by omega)
    clear c0 c1
    go_enter Try.func22, Try.ntmps22
    go_wp2_with fail
    go_ret
    exact ⟨by rw [HR.out]; rfl, HG.out⟩
  have f10 : decide (k ≤ 64) = true := decide_eq_true (by omega)
  have f11 : decide ((k : Int) ≤ 64) = true := decide_eq_true (by omega)
  by_cases c2 : lp < 0
  · have HR : Hid (loopedB k lp = false) := Lib.hid (by cases h : loopedB k lp with | false => rfl | true => have := loopedB_iff.1 h; omega)
    have f20 : decide (0 ≤ lp) = false := decide_eq_false (by omega)
    clear c0 c1 c2
    go_enter Try.func22, Try.ntmps22
    go_wp2_with fail
    go_ret
    exact ⟨by rw [HR.out]; rfl, HG.out⟩
  have f20 : decide (0 ≤ lp) = true := decide_eq_true (by omega)
  by_cases c3 : (k : Int) ≤ lp
  · have HR : Hid (loopedB k lp = false) := Lib.hid (by cases h : loopedB k lp with | false => rfl | true => have := loopedB_iff.1 h; omega)
    have f30 : decide (lp < (k : Int)) = false := decide_eq_false (by omega)
    clear c0 c1 c2 c3
    go_enter Try.func22, Try.ntmps22
    go_wp2_with fail
    go_ret
    exact ⟨by rw [HR.out]; rfl, HG.out⟩
  have f30 : decide (lp < (k : Int)) = true := decide_eq_true (by omega)
  have HR : Hid (loopedB k lp = true) := Lib.hid (loopedB_iff.2 (by omega))
  clear c0 c1 c2 c3
  go_enter Try.func22, Try.ntmps22
  go_wp2_with fail
  go_ret
  exact ⟨by rw [HR.out]; rfl, HG.out⟩

set_option maxRecDepth 100000 in
set_option maxHeartbeats 1000000 in
theorem next_calls (sa : Option Addr) (n sc : Nat) (st : Int) (ta : Option Addr) (k tc : Nat) (lp : Int) (s : Int) (w : World) (hk : (k : Int) ≤ 9223372036854775807) (hs0 : -9223372036854775808 ≤ s) (hs1 : s ≤ 9223372036854775807) :
    Calls Try.prog 23 #[.agg #[.slice sa n sc, .int .i64 st, .slice ta k tc, .int .i64 lp], .int .i64 s] w fun e w' => e = .returned (.int .i64 (nextI k lp s)) ∧ w.grownBy w' none := by
  have HG := Lib.hid (World.grownBy_alloc w (.cells #[.slice sa n sc, .int .i64 st, .slice ta k tc, .int .i64 lp] 33) none)
  by_cases c0 : s < 0
  · have HR : Hid (nextI k lp s = 0) := Lib.hid (by unfold nextI; rw [if_pos (.inl c0)])
    have f0 : decide (s < 0) = true := decide_eq_true c0
    clear c0
    go_enter Try.func23, Try.ntmps23
    go_wp2_with fail
    go_ret
    exact ⟨by rw [HR.out]; rfl, HG.out⟩
  have f0 : decide (s < 0) = false := decide_eq_false c0
  by_cases c1 : (k : Int) ≤ s
  · have HR : Hid (nextI k lp s = 0) := Lib.hid (by unfold nextI; rw [if_pos (.inr c1)])
    have f1 : decide ((k : Int) ≤ s) = true := decide_eq_true c1
    clear c0 c1
    go_enter Try.func23, Try.ntmps23
    go_wp2_with fail
    go_ret
    exact ⟨by rw [HR.out]; rfl, HG.out⟩
  have f1 : decide ((k : Int) ≤ s) = false := decide_eq_false c1
  by_cases c2 : s = (k : Int) - 1
  · have HR : Hid (nextI k lp s = lp) := Lib.hid (by unfold nextI; rw [if_neg (by omega), if_pos c2])
    have f2 : (s == (k : Int) - 1) = true := by simpa using c2
    have hb : -9223372036854775808 ≤ (k : Int) - 1 ∧ (k : Int) - 1 ≤ 9223372036854775807 := by omega
    clear c0 c1 c2
    go_enter Try.func23, Try.ntmps23
    go_wp2_with fail
    go_ret
    exact ⟨by rw [HR.out]; rfl, HG.out⟩
  have HR : Hid (nextI k lp s = s + 1) := Lib.hid (by unfold nextI; rw [if_neg (by omega), if_neg c2])
  have f2 : (s == (k : Int) - 1) = false := by simpa using c2
  have hb : -9223372036854775808 ≤ (k : Int) - 1 ∧ (k : Int) - 1 ≤ 9223372036854775807 := by omega
  have hb2 : s + 1 ≤ 9223372036854775807 := by omega
  clear c0 c1 c2
  go_enter Try.func23, Try.ntmps23
  go_wp2_with fail
  go_ret
  exact ⟨by rw [HR.out]; rfl, HG.out⟩

set_option maxRecDepth 100000 in
set_option maxHeartbeats 1000000 in
theorem rNext_calls (sa : Option Addr) (n sc : Nat) (st : Int) (ta : Option Addr) (k tc : Nat) (lp : Int) (s : Int) (w : World) (hk : (k : Int) ≤ 9223372036854775807) (hs0 : -9223372036854775808 ≤ s) (hs1 : s ≤ 9223372036854775807) :
    Calls Try.prog 24 #[.agg #[.slice sa n sc, .int .i64 st, .slice ta k tc, .int .i64 lp], .int .i64 s] w fun e w' => e = .returned (.int .i64 (nextI k lp s)) ∧ w.grownBy w' none := by
  have HG := Lib.hid (World.grownBy_alloc w (.cells #[.slice sa n sc, .int .i64 st, .slice ta k tc, .int .i64 lp] 33) none)
  by_cases c0 : s < 0
  · have HR : Hid (nextI k lp s = 0) := Lib.hid (by unfold nextI; rw [if_pos (.inl c0)])
    have f0 : decide (s < 0) = true := decide_eq_true c0
    clear c0
    go_enter Try.func24, Try.ntmps24
    go_wp2_with fail
    go_ret
    exact ⟨by rw [HR.out]; rfl, HG.out⟩
  have f0 : decide (s < 0) = false := decide_eq_false c0
  by_cases c1 : (k : Int) ≤ s
  · have HR : Hid (nextI k lp s = 0) := Lib.hid (by unfold nextI; rw [if_pos (.inr c1)])
    have f1 : decide ((k : Int) ≤ s) = true := decide_eq_true c1
    clear c0 c1
    go_enter Try.func24, Try.ntmps24
    go_wp2_with fail
    go_ret
    exact ⟨by rw [HR.out]; rfl, HG.out⟩
  have f1 : decide ((k : Int) ≤ s) = false := decide_eq_false c1
  by_cases c2 : s = (k : Int) - 1
  · have HR : Hid (nextI k lp s = lp) := Lib.hid (by unfold nextI; rw [if_neg (by omega), if_pos c2])
    have f2 : (s == (k : Int) - 1) = true := by simpa using c2
    have hb : -9223372036854775808 ≤ (k : Int) - 1 ∧ (k : Int) - 1 ≤ 9223372036854775807 := by omega
    clear c0 c1 c2
    go_enter Try.func24, Try.ntmps24
    go_wp2_with fail
    go_ret
    exact ⟨by rw [HR.out]; rfl, HG.out⟩
  have HR : Hid (nextI k lp s = s + 1) := Lib.hid (by unfold nextI; rw [if_neg (by omega), if_neg c2])
  have f2 : (s == (k : Int) - 1) = false := by simpa using c2
  have hb : -9223372036854775808 ≤ (k : Int) - 1 ∧ (k : Int) - 1 ≤ 9223372036854775807 := by omega
  have hb2 : s + 1 ≤ 9223372036854775807 := by omega
  clear c0 c1 c2
  go_enter Try.func24, Try.ntmps24
  go_wp2_with fail
  go_ret
  exact ⟨by rw [HR.out]; rfl, HG.out⟩

set_option maxRecDepth 100000 in
set_option maxHeartbeats 1000000 in
theorem index_calls (sa : Option Addr) (n sc : Nat) (st : Int) (ta : Option Addr) (k tc : Nat) (lp : Int) (t : Int) (w : World) (hk : k ≤ 64) (hl0 : 0 ≤ lp) (hl1 : lp < (k : Int)) (ht0 : 0 ≤ t) (ht1 : t ≤ 9223372036854775807) :
    Calls Try.prog 80 #[.agg #[.slice sa n sc, .int .i64 st, .slice ta k tc, .int .i64 lp], .int .i64 t] w fun e w' => e = .returned (.int .i64 (indexI k lp t)) ∧ w.grownBy w' none := by
  have HG := Lib.hid (World.grownBy_alloc w (.cells #[.slice sa n sc, .int .i64 st, .slice ta k tc, .int .i64 lp] 33) none)
  by_cases c0 : t < (k : Int)
  · have HR : Hid (indexI k lp t = t) := Lib.hid (by unfold indexI; rw [if_pos c0])
    have f0 : decide (t < (k : Int)) = true := decide_eq_true c0
    clear c0
    go_enter Try.func80, Try.ntmps80
    go_wp2_with fail
    go_ret
    exact ⟨by rw [HR.out]; rfl, HG.out⟩
  have HR : Hid (indexI k lp t = lp + (t - lp) % ((k : Int) - lp)) := Lib.hid (by unfold indexI; rw [if_neg c0])
  have f0 : decide (t < (k : Int)) = false := decide_eq_false c0
  obtain ⟨D, hD⟩ : ∃ D, (k : Int) - lp = D := ⟨_, rfl⟩
  obtain ⟨T, hT⟩ : ∃ T, t - lp = T := ⟨_, rfl⟩
  rw [hD, hT] at HR
  have hD1 : 1 ≤ D := by omega
  have hD2 : D ≤ 64 := by omega
  have hT1 : 0 ≤ T := by omega
  have hT2 : T ≤ 9223372036854775807 := by omega
  have hm0 : 0 ≤ T % D := Int.emod_nonneg T (by omega)
  have hm1 : T % D < D := Int.emod_lt_of_pos T (by omega)
  have hm2 : lp + T % D ≤ 9223372036854775807 := by omega
  have hm3 : -9223372036854775808 ≤ lp + T % D := by omega
  have hDn : (D == 0) = false := by simp; omega
  have hDn2 : D ≠ 0 := by omega
  have hDn3 : ¬ D = -1 := by omega
  clear c0
  go_enter Try.func80, Try.ntmps80
  go_wp2_with fail
  go_quiet (fail)
  go_wp2_with fail
  go_ret
  exact ⟨by rw [HR.out]; rfl, HG.out.trans (grown_drewN _ _ _)⟩

end Go.Proofs.Ytbddpjofhddilaa
