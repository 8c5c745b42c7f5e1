/- The shortest period. -/
import Derived.Test.YtbddpjofhddilaaRS
import Derived.WalkMore
namespace Go.Proofs.Ytbddpjofhddilaa
open Go.RowKit

/-- Whether p is a period of n states that agree by S. -/
def isPer (S : Nat → Nat → Bool) (n p : Nat) : Bool := decide (n % p = 0) && (List.range n).all fun i => decide (i < p) || S i (i - p)
def shP (S : Nat → Nat → Bool) (n : Nat) : Nat → Nat → Nat
  | 0, _ => n
  | f + 1, p => if isPer S n p then p else shP S n f (p + 1)
theorem isPer_iff {S : Nat → Nat → Bool} {n p : Nat} : isPer S n p = true ↔ n % p = 0 ∧ ∀ i, i < n → p ≤ i → S i (i - p) = true := by
  simp only [isPer, Bool.and_eq_true, decide_eq_true_eq, List.all_eq_true, List.mem_range, Bool.or_eq_true]
  constructor
  · rintro ⟨h1, h2⟩
    exact ⟨h1, fun i hi hp => (h2 i hi).resolve_left (by omega)⟩
  · rintro ⟨h1, h2⟩
    exact ⟨h1, fun i hi => if h : i < p then .inl h else .inr (h2 i hi (by omega))⟩

set_option maxRecDepth 100000 in
set_option maxHeartbeats 4000000 in
theorem period_calls (S : Nat → Nat → Bool) (n f b : Nat) (w : World) (hn : n ≤ 64) (hn1 : 1 ≤ n)
    (hS : ∀ (i j : Nat) (W : World), i < n → j < n → w.grownBy W none → Calls Try.prog 85 #[.int .i64 (i : Int), .int .i64 (j : Int), .pointer (some ⟨f, 0, none⟩), .pointer (some ⟨b, 0, none⟩)] W fun e w' => e = .returned (.bool (S i j)) ∧ W.grownBy w' none) :
    Calls Try.prog 84 #[.int .i64 (n : Int), .func (.func 85) #[] #[.pointer (some ⟨f, 0, none⟩), .pointer (some ⟨b, 0, none⟩)]] w fun e w' => e = .returned (.int .i64 (shP S n (n - 1) 1 : Nat)) ∧ w.grownBy w' none := by
  have HS := Lib.hid hS; clear hS
  go_enter Try.func84, Try.ntmps84
  go_wp2_with fail
  go_step3
  go_wp2_with fail
  go_step3
  go_wp2_with fail
  go_loopg [5] (n - 1) (fun g s5 wr => ∃ p : Nat, s5 = .int .i64 (p : Int) ∧ g = n - p ∧ 1 ≤ p ∧ p ≤ n ∧ shP S n (n - 1) 1 = shP S n (n - p) p ∧ w.grownBy wr none)
  case atStart => exact ⟨1, rfl, rfl, Nat.le_refl _, hn1, rfl, grown_refl _ _⟩
  case round =>
    obtain ⟨p, rfl, hgp, hp1, hpn, hsh, hgr⟩ := hrel
    have HGP := Lib.hid (And.intro hgp (And.intro hsh hgr)); clear hgp hsh hgr
    by_cases hin : p < n
    · have hinB : decide (p < n) = true := by simpa using hin
      have HSTEP : Hid (shP S n (n - p) p = if isPer S n p then p else shP S n (n - (p + 1)) (p + 1)) := Lib.hid (by
        rw [show n - p = (n - (p + 1)) + 1 by omega]; rfl)
      obtain ⟨M, hM⟩ : ∃ M : Int, (n : Int) % (p : Int) = M := ⟨_, rfl⟩
      have hMn : n % p = 0 ↔ M = 0 := by rw [← hM]; omega
      have hp0 : ((p : Int) == 0) = false := by simp; omega
      have hp2 : (p : Int) ≠ 0 := by omega
      by_cases hM0 : M = 0
      · have e1 : (M != 0) = false := by simp [hM0]
        have HM := Lib.hid (hMn.2 hM0); clear hMn hM0
        go_wp2_with fail
        clear hM e1
        go_loopg [6] (n - p) (fun g s6 wr => ∃ i : Nat, s6 = .int .i64 (i : Int) ∧ g = n - i ∧ p ≤ i ∧ i ≤ n ∧ (∀ q, q < i → p ≤ q → S q (q - p) = true) ∧ w.grownBy wr none)
        case atStart => exact ⟨p, rfl, rfl, Nat.le_refl _, hpn, fun q h1 h2 => absurd h1 (by omega), HGP.out.2.2⟩
        case round =>
          obtain ⟨i, rfl, hgi, hpi, hi, hok, hgr⟩ := hrel
          have HGI := Lib.hid (And.intro hgi (And.intro hok hgr)); clear hgi hok hgr
          by_cases hiN : i < n
          · have hiB : decide (i < n) = true := by simpa using hiN
            obtain ⟨J, hJ⟩ : ∃ J, i - p = J := ⟨_, rfl⟩
            have hsub : (i : Int) - (p : Int) = (J : Int) := by omega
            have HC := Lib.hid (HS.out i J _ hiN (by omega) HGI.out.2.2)
            obtain ⟨R, hR⟩ : ∃ R, S i J = R := ⟨_, rfl⟩
            rw [hR] at HC
            have HR := Lib.hid (And.intro hR hJ); clear hR hJ
            go_wp2_with fail
            refine HC.out.mono ?_
            rintro e w5 ⟨rfl, g5⟩
            have HG5 := Lib.hid (HGI.out.2.2.trans g5); clear g5
            cases R with
            | true =>
              go_wp2_with fail
              go_roundg (n - (i + 1))
              case measure => rw [HGI.out.1]; omega
              case rel => exact ⟨i + 1, rfl, rfl, by omega, by omega, fun q h1 h2 => by
                by_cases h3 : q < i
                · exact HGI.out.2.1 q h3 h2
                · have : q = i := by omega
                  subst this
                  rw [HR.out.2]; exact HR.out.1, HG5.out⟩
            | false =>
              have HNO : Hid (isPer S n p = false) := Lib.hid (by
                cases h : isPer S n p with
                | false => rfl
                | true =>
                  have := (isPer_iff.1 h).2 i hiN hpi
                  rw [HR.out.2, HR.out.1] at this
                  cases this)
              go_wp2_with fail
              go_roundg (n - (p + 1))
              case measure => rw [HGP.out.1]; omega
              case rel => exact ⟨p + 1, rfl, rfl, by omega, by omega, by rw [HGP.out.2.1, HSTEP.out, HNO.out]; rfl, HG5.out⟩
          · have hie : i = n := by omega
            subst hie
            have hiB : decide (i < i) = false := by simp
            have HYES : Hid (shP S i (i - 1) 1 = p) := Lib.hid (by
              have hp : isPer S i p = true := isPer_iff.2 ⟨HM.out, fun q h1 h2 => HGI.out.2.1 q h1 h2⟩
              rw [HGP.out.2.1, HSTEP.out, hp]; rfl)
            go_wp2_with fail
            try rw [Exit.noGoto_ret]
            go_ret
            exact ⟨by rw [HYES.out]; rfl, HGI.out.2.2⟩
      · have e1 : (M != 0) = true := by simpa using hM0
        have HNO : Hid (isPer S n p = false) := Lib.hid (by cases h : isPer S n p with | false => rfl | true => exact absurd (hMn.1 (isPer_iff.1 h).1) hM0)
        clear hMn hM0
        go_wp2_with fail
        go_roundg (n - (p + 1))
        case measure => rw [HGP.out.1]; omega
        case rel => exact ⟨p + 1, rfl, rfl, by omega, by omega, by rw [HGP.out.2.1, HSTEP.out, HNO.out]; rfl, HGP.out.2.2⟩
    · have hie : p = n := by omega
      subst hie
      have hinB : decide (p < p) = false := by simp
      have HE : Hid (shP S p (p - 1) 1 = p) := Lib.hid (by rw [HGP.out.2.1, Nat.sub_self]; rfl)
      go_wp2_with fail
      try rw [Exit.noGoto_ret]
      go_ret
      exact ⟨by rw [HE.out]; rfl, HGP.out.2.2⟩
end Go.Proofs.Ytbddpjofhddilaa
