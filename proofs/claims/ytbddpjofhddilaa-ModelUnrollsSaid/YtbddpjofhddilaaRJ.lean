/- Which relations are valid. -/
import Derived.Test.YtbddpjofhddilaaRI
namespace Go.Proofs.Ytbddpjofhddilaa
open Go.RowKit

set_option maxHeartbeats 1000000 in
theorem power_calls (n k : Nat) (w : World) (hn : n ≤ 12) (hk : k ≤ 3) : Calls Try.prog 112 #[.int .i64 (n : Int), .int .i64 (k : Int)] w fun e w' => e = .returned (.int .i64 ((n ^ k : Nat) : Int)) ∧ w' = w := by
  go_enter Try.func112, Try.ntmps112
  go_wp2
  go_loopg [5, 7] k (fun g s5 s7 wr => ∃ i : Nat, s5 = .int .i64 ((n ^ i : Nat) : Int) ∧ s7 = .int .i64 (i : Int) ∧ g = k - i ∧ i ≤ k ∧ wr = w)
  case atStart => exact ⟨0, rfl, rfl, rfl, Nat.zero_le _, rfl⟩
  case round =>
    obtain ⟨i, rfl, rfl, hgi, hi, rfl⟩ := hrel
    have HGI := Lib.hid hgi; clear hgi
    by_cases hin : i < k
    · have hinB : decide (i < k) = true := by simpa using hin
      have hp : n ^ i ≤ 12 ^ 3 := Nat.le_trans (Nat.pow_le_pow_left hn i) (Nat.pow_le_pow_right (by omega) (by omega))
      obtain ⟨S, hS⟩ : ∃ S, n ^ i = S := ⟨_, rfl⟩
      have hSn : n ^ (i + 1) = S * n := by rw [Nat.pow_succ, hS]
      rw [hS] at hp ⊢
      have HSN := Lib.hid hSn; clear hSn hS
      have hmul : (S : Int) * (n : Int) ≤ 1000000 := by
        have h1 : S * n ≤ 1728 * 12 := Nat.mul_le_mul hp hn
        have h2 : ((S * n : Nat) : Int) ≤ 1000000 := by omega
        rwa [Int.natCast_mul] at h2
      have hmul0 : 0 ≤ (S : Int) * (n : Int) := Int.mul_nonneg (by omega) (by omega)
      go_wp2
      go_roundg (k - (i + 1))
      case measure => rw [HGI.out]; omega
      case rel => exact ⟨i + 1, by rw [HSN.out]; simp, rfl, rfl, by omega, rfl⟩
    · have hie : i = k := by omega
      subst hie
      have hinB : decide (i < i) = false := by simp
      go_wp2
      go_ret
      exact ⟨rfl, rfl⟩

/-- Strictly increasing, above lo and below hi. -/
def rising (hi : Int) : Int → List Int → Bool
  | _, [] => true
  | lo, z :: l => decide (lo < z) && decide (z < hi) && rising hi z l
def relValid (n x : Int) (zs : List Int) : Bool := decide (0 ≤ n) && decide (n ≤ 12) && decide (1 ≤ x) && decide (x ≤ 3) && rising ((n.toNat ^ x.toNat : Nat) : Int) (-1) zs
theorem relValid_iff {n x : Int} {zs : List Int} : relValid n x zs = true ↔ (0 ≤ n ∧ n ≤ 12 ∧ 1 ≤ x ∧ x ≤ 3) ∧ rising ((n.toNat ^ x.toNat : Nat) : Int) (-1) zs = true := by simp [relValid, and_assoc]

set_option maxRecDepth 100000 in
set_option maxHeartbeats 2000000 in
theorem relValid_calls (n x : Int) (zs : List Int) (a : Option Addr) (c : Nat) (w : World) (h : IntsW w a c zs) (hl : zs.length ≤ 100000) :
    Calls Try.prog 62 #[.int .i64 n, .agg #[.int .i64 x, .slice a zs.length c]] w fun e w' => e = .returned (.bool (relValid n x zs)) ∧ w.grownBy w' none := by
  obtain ⟨k, hk⟩ : ∃ k, zs.length = k := ⟨_, rfl⟩
  rw [hk] at hl ⊢
  have HK := Lib.hid hk; clear hk
  have HG := Lib.hid (World.grownBy_alloc w (.cells #[.int .i64 x, .slice a k c] 53) none)
  have HI := Lib.hid (h.grown HG.out); clear h
  have HL := Lib.hid hl; clear hl
  by_cases c0 : n < 0
  · have f0 : decide (n < 0) = true := decide_eq_true c0
    have HR : Hid (relValid n x zs = false) := Lib.hid (by cases h : relValid n x zs with | false => rfl | true => have := (relValid_iff.1 h).1; omega)
    clear c0
    go_enter Try.func62, Try.ntmps62
    go_wp2_with fail
    go_ret
    exact ⟨by rw [HR.out]; rfl, HG.out⟩
  have f0 : decide (n < 0) = false := decide_eq_false c0
  by_cases c1 : 12 < n
  · have f1 : decide (12 < n) = true := decide_eq_true c1
    have HR : Hid (relValid n x zs = false) := Lib.hid (by cases h : relValid n x zs with | false => rfl | true => have := (relValid_iff.1 h).1; omega)
    clear c0 c1
    go_enter Try.func62, Try.ntmps62
    go_wp2_with fail
    go_ret
    exact ⟨by rw [HR.out]; rfl, HG.out⟩
  have f1 : decide (12 < n) = false := decide_eq_false c1
  by_cases c2 : x < 1
  · have f2 : decide (x < 1) = true := decide_eq_true c2
    have HR : Hid (relValid n x zs = false) := Lib.hid (by cases h : relValid n x zs with | false => rfl | true => have := (relValid_iff.1 h).1; omega)
    clear c0 c1 c2
    go_enter Try.func62, Try.ntmps62
    go_wp2_with fail
    go_ret
    exact ⟨by rw [HR.out]; rfl, HG.out⟩
  have f2 : decide (x < 1) = false := decide_eq_false c2
  by_cases c3 : 3 < x
  · have f3 : decide (3 < x) = true := decide_eq_true c3
    have HR : Hid (relValid n x zs = false) := Lib.hid (by cases h : relValid n x zs with | false => rfl | true => have := (relValid_iff.1 h).1; omega)
    clear c0 c1 c2 c3
    go_enter Try.func62, Try.ntmps62
    go_wp2_with fail
    go_ret
    exact ⟨by rw [HR.out]; rfl, HG.out⟩
  have f3 : decide (3 < x) = false := decide_eq_false c3
  obtain ⟨N, rfl⟩ : ∃ N : Nat, n = (N : Int) := ⟨n.toNat, by omega⟩
  obtain ⟨X, rfl⟩ : ∃ X : Nat, x = (X : Int) := ⟨x.toNat, by omega⟩
  have hN : N ≤ 12 := by omega
  have hX : X ≤ 3 := by omega
  have HR : Hid (relValid (N : Int) (X : Int) zs = rising ((N ^ X : Nat) : Int) (-1) zs) := Lib.hid (by
    have h1 : (N : Int).toNat = N := Int.toNat_natCast N
    have h2 : (X : Int).toNat = X := Int.toNat_natCast X
    unfold relValid
    rw [h1, h2, decide_eq_true (show (0 : Int) ≤ (N : Int) by omega), decide_eq_true (show (N : Int) ≤ 12 by omega), decide_eq_true (show (1 : Int) ≤ (X : Int) by omega), decide_eq_true (show (X : Int) ≤ 3 by omega)]
    rfl)
  clear c0 c1 c2 c3
  go_enter Try.func62, Try.ntmps62
  go_wp2_with fail
  refine (power_calls N X _ hN hX).mono ?_
  rintro e w1 ⟨rfl, rfl⟩
  obtain ⟨E, hE⟩ : ∃ E, N ^ X = E := ⟨_, rfl⟩
  rw [hE] at HR ⊢
  clear hE
  go_wp2_with fail
  obtain ⟨W, hW⟩ : ∃ W, w.alloc (.cells #[.int .i64 (X : Int), .slice a k c] 53) = W := ⟨_, rfl⟩
  rw [hW] at HG HI ⊢
  clear hW
  have hl := HL.out
  go_loopg [5, 32] k (fun g s5 s32 wr => ∃ (i : Nat) (p : Int), s5 = .int .i64 p ∧ s32 = .int .i64 (i : Int) ∧ g = k - i ∧ i ≤ k ∧ rising (E : Int) (-1) zs = rising (E : Int) p (zs.drop i) ∧ wr = W)
  case atStart => exact ⟨0, -1, rfl, rfl, rfl, Nat.zero_le _, rfl, rfl⟩
  case round =>
    obtain ⟨i, p, rfl, rfl, hgi, hi, hri, rfl⟩ := hrel
    have HGI := Lib.hid (And.intro hgi hri); clear hgi hri
    by_cases hin : i < k
    · have hinB : decide (i < k) = true := by simpa using hin
      have hinI : (i : Int) < (k : Int) := by omega
      obtain ⟨z, hz⟩ : ∃ z, zs[i]? = some z := ⟨_, List.getElem?_eq_getElem (by rw [HK.out]; exact hin)⟩
      obtain ⟨b, o, rfl, hcell⟩ := HI.out.at hz
      have hdrop : zs.drop i = z :: zs.drop (i + 1) := by
        have hlt : i < zs.length := by rw [HK.out]; exact hin
        rw [List.drop_eq_getElem_cons hlt]
        congr 1
        rw [List.getElem?_eq_getElem hlt] at hz
        exact Option.some.inj hz
      have HST : Hid (rising (E : Int) (-1) zs = (decide (p < z) && decide (z < (E : Int)) && rising (E : Int) z (zs.drop (i + 1)))) := Lib.hid (by rw [HGI.out.2, hdrop]; rfl)
      clear hz hdrop
      by_cases h1 : z ≤ p
      · have e1 : decide (z ≤ p) = true := decide_eq_true h1
        have HF : Hid (rising (E : Int) (-1) zs = false) := Lib.hid (by rw [HST.out, decide_eq_false (show ¬ p < z by omega)]; rfl)
        clear h1
        go_wp2_with fail
        go_ret
        exact ⟨by rw [HR.out, HF.out]; rfl, HG.out⟩
      have e1 : decide (z ≤ p) = false := decide_eq_false h1
      by_cases h2 : (E : Int) ≤ z
      · have e2 : decide ((E : Int) ≤ z) = true := decide_eq_true h2
        have HF : Hid (rising (E : Int) (-1) zs = false) := Lib.hid (by rw [HST.out, decide_eq_false (show ¬ z < (E : Int) by omega)]; simp)
        clear h1 h2
        go_wp2_with fail
        go_ret
        exact ⟨by rw [HR.out, HF.out]; rfl, HG.out⟩
      have e2 : decide ((E : Int) ≤ z) = false := decide_eq_false h2
      have HF : Hid (rising (E : Int) (-1) zs = rising (E : Int) z (zs.drop (i + 1))) := Lib.hid (by rw [HST.out, decide_eq_true (show p < z by omega), decide_eq_true (show z < (E : Int) by omega)]; rfl)
      clear h1 h2
      go_wp2_with fail
      go_roundg (k - (i + 1))
      case measure => rw [HGI.out.1]; omega
      case rel => exact ⟨i + 1, z, rfl, rfl, rfl, by omega, HF.out, rfl⟩
    · have hie : i = k := by omega
      subst hie
      have hinB : decide (i < i) = false := by simp
      have HF : Hid (rising (E : Int) (-1) zs = true) := Lib.hid (by rw [HGI.out.2, List.drop_of_length_le (by rw [HK.out]; exact Nat.le_refl _)]; rfl)
      go_wp2_with fail
      go_ret
      exact ⟨by rw [HR.out, HF.out]; rfl, HG.out⟩

/-- How the difference keeps. -/
theorem diff1_calls (x y : Bool) (w : World) : Calls Try.prog 132 #[.bool x, .bool y] w fun e w' => e = .returned (.bool (x && !y)) ∧ w' = w := by
  cases x <;> cases y
  all_goals
    go_enter Try.func132, Try.ntmps132
    go_wp2
    go_ret
    exact ⟨rfl, rfl⟩
end Go.Proofs.Ytbddpjofhddilaa
