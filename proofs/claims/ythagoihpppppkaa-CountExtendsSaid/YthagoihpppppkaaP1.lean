/- Pick: the reference that a number selects. -/
import Derived.Test.YthagoihpppppkaaH3
namespace Go.Proofs.Ythagoihpppppkaa
open Go.RowKit

def pick0 (refs : List Int) (n : Nat) : Int := if n / 2 % (refs.length + 1) = 0 then 0 else (refs[n / 2 % (refs.length + 1) - 1]?).getD 0
def pickL (refs : List Int) (n : Nat) : Int := if n % 2 = 1 then notR (pick0 refs n) else pick0 refs n

set_option maxRecDepth 100000 in
set_option maxHeartbeats 4000000 in
theorem pick_calls (refs : List Int) (n : Nat) (a : Option Addr) (c : Nat) (w : World) (h : IntsW w a c refs) (hl : refs.length ≤ 1000) (hn : n < 256) (hb : ∀ r ∈ refs, r ≤ 9223372036854775807) :
    Calls Try.prog 33 #[.slice a refs.length c, .int .u8 (n : Int)] w fun e w' => e = .returned (.int .i64 (pickL refs n)) ∧ w' = w := by
  obtain ⟨m, hm⟩ : ∃ m, refs.length = m := ⟨_, rfl⟩
  obtain ⟨q, hq⟩ : ∃ q, n / 2 = q := ⟨_, rfl⟩
  obtain ⟨k, hk⟩ : ∃ k, q % (m + 1) = k := ⟨_, rfl⟩
  have hkm : k ≤ m := by rw [← hk]; have := Nat.mod_lt q (show 0 < m + 1 by omega); omega
  have HP0 := Lib.hid (show pick0 refs n = if k = 0 then 0 else (refs[k - 1]?).getD 0 by unfold pick0; rw [hm, hq, hk])
  have HPL := Lib.hid (show pickL refs n = if n % 2 = 1 then notR (pick0 refs n) else pick0 refs n from rfl)
  have hw0 : IntKind.i64.wrap (n : Int) = (n : Int) := IntWalk.i64_in _ (by omega)
  have hw1 : IntKind.i64.wrap (q : Int) = (q : Int) := IntWalk.i64_in _ (by omega)
  have hw2 : IntKind.i64.wrap ((m : Int) + 1) = ((m + 1 : Nat) : Int) := by rw [IntWalk.i64_in _ (by omega)]; omega
  have hw3 : IntKind.i64.wrap (k : Int) = (k : Int) := IntWalk.i64_in _ (by omega)
  have hm0 : ¬ (((m + 1 : Nat) : Int) = 0) := by omega
  have hm1 : ¬ ((m + 1 : Nat) = 0) := by omega
  have hd : (n : Int).tdiv 2 = (q : Int) := by rw [Int.tdiv_eq_ediv_of_nonneg (by omega), ← hq]; omega
  have hr : (q : Int).tmod ((m + 1 : Nat) : Int) = (k : Int) := by rw [Int.tmod_eq_emod_of_nonneg (by omega), ← hk]; rfl
  have hr' : (q : Int).tmod ((m : Int) + 1) = (k : Int) := hr
  have HM := Lib.hid hm
  have HH := Lib.hid h
  have HB := Lib.hid hb
  rw [hm] at hl ⊢
  clear h hb hm
  have h2 : n % 2 = 0 ∨ n % 2 = 1 := by omega
  have ht : (n : Int).tmod 2 = ((n % 2 : Nat) : Int) := by rw [Int.tmod_eq_emod_of_nonneg (by omega)]; rfl
  have hz : ∀ z, pick0 refs n = z → z ≤ 9223372036854775807 := fun z hz => by
    rw [← hz, HP0.out]
    split
    · omega
    · cases hg : refs[k - 1]? with
      | none => simp
      | some r => exact HB.out r (List.mem_of_getElem? hg)
  by_cases hk0 : 0 < k
  · have f1 : decide (0 < k) = true := decide_eq_true hk0
    obtain ⟨r, hg⟩ : ∃ r, refs[k - 1]? = some r := ⟨_, List.getElem?_eq_getElem (by rw [HM.out]; omega)⟩
    have hp0 : pick0 refs n = r := by rw [HP0.out, if_neg (by omega), hg]; rfl
    have hrb := hz r hp0
    obtain ⟨b, o, rfl, x0⟩ := HH.out.at hg
    have hw5 : IntKind.i64.wrap ((k : Int) - 1) = ((k - 1 : Nat) : Int) := by rw [IntWalk.i64_in _ (by omega)]; omega
    have hi0 : (0 : Int) ≤ ((k - 1 : Nat) : Int) := by omega
    have hi1 : ((k - 1 : Nat) : Int) < (m : Int) := by omega
    obtain ⟨j, hj⟩ : ∃ j, k - 1 = j := ⟨_, rfl⟩
    rw [hj] at hw5 hi0 hi1 x0
    clear hj hg hz
    by_cases hn2 : n % 2 = 1
    · have f2 : ((n : Int) % 2 == 1) = true := beqT (by omega)
      have HE := Lib.hid (show pickL refs n = notR r by rw [HPL.out, if_pos hn2, hp0])
      clear hn2 hp0 h2 ht
      go_enter Try.func33, Try.ntmps33
      go_wp2_with (go_at_call 31; refine (not26_calls _ _ hrb).mono ?_; rintro e w9 ⟨rfl, hw9⟩; rw [hw9]; clear hw9 w9)
      go_ret
      exact ⟨by rw [HE.out]; rfl, rfl⟩
    · have f2 : ((n : Int) % 2 == 1) = false := beqF (by omega)
      have HE := Lib.hid (show pickL refs n = r by rw [HPL.out, if_neg hn2, hp0])
      clear hn2 hp0 h2 ht
      go_enter Try.func33, Try.ntmps33
      go_wp2_with fail
      go_ret
      exact ⟨by rw [HE.out]; rfl, rfl⟩
  · have f1 : decide (0 < k) = false := decide_eq_false hk0
    obtain ⟨r, hrr⟩ : ∃ r : Int, r = 0 := ⟨_, rfl⟩
    have hp0 : pick0 refs n = r := by rw [HP0.out, if_pos (by omega), hrr]
    have hrb := hz r hp0
    clear hz
    subst hrr
    by_cases hn2 : n % 2 = 1
    · have f2 : ((n : Int) % 2 == 1) = true := beqT (by omega)
      have HE := Lib.hid (show pickL refs n = notR 0 by rw [HPL.out, if_pos hn2, hp0])
      clear hn2 hp0 h2 ht
      go_enter Try.func33, Try.ntmps33
      go_wp2_with (go_at_call 31; refine (not26_calls _ _ hrb).mono ?_; rintro e w9 ⟨rfl, hw9⟩; rw [hw9]; clear hw9 w9)
      go_ret
      exact ⟨by rw [HE.out]; rfl, rfl⟩
    · have f2 : ((n : Int) % 2 == 1) = false := beqF (by omega)
      have HE := Lib.hid (show pickL refs n = 0 by rw [HPL.out, if_neg hn2, hp0])
      clear hn2 hp0 h2 ht
      go_enter Try.func33, Try.ntmps33
      go_wp2_with fail
      go_ret
      exact ⟨by rw [HE.out]; rfl, rfl⟩
end Go.Proofs.Ythagoihpppppkaa
