/- Powers; whether a relation is valid: the reference. -/
import Derived.Test.YtbddpjofhddilaaYB
import Derived.BigQuiet
namespace Go.Proofs.Ytbddpjofhddilaa
open Go.RowKit

theorem pow_small {n i : Nat} (hn : n ≤ 12) (hi : i ≤ 3) : n ^ i ≤ 1728 := Nat.le_trans (Nat.pow_le_pow_left hn i) (Nat.pow_le_pow_right (n := 12) (by omega) hi)
set_option maxRecDepth 100000 in
set_option maxHeartbeats 2000000 in
theorem power9_calls (n k : Nat) (w : World) (hn : n ≤ 12) (hk : k ≤ 3) :
    Calls Try.prog 115 #[.int .i64 (n : Int), .int .i64 (k : Int)] w fun e w' => e = .returned (.int .i64 ((n ^ k : Nat) : Int)) ∧ w' = w := by
  go_enter Try.func115, Try.ntmps115
  go_wp2_with fail
  go_loopg [5, 6] k (fun g s5 s6 wr => ∃ (i P : Nat), s6 = .int .i64 (i : Int) ∧ s5 = .int .i64 (P : Int) ∧ P = n ^ i ∧ g = k - i ∧ i ≤ k ∧ wr = w)
  case atStart => exact ⟨0, 1, rfl, rfl, rfl, rfl, Nat.zero_le _, rfl⟩
  case round =>
    obtain ⟨i, P, rfl, rfl, hP, hgi, hi, rfl⟩ := hrel
    have hPl : P ≤ 1728 := by rw [hP]; exact pow_small hn (by omega)
    have HI := Lib.hid (And.intro hgi hP); clear hgi hP
    by_cases hin : i < k
    · have f0 : decide (i < k) = true := by simpa using hin
      have f1 : decide (i < 3) = true := by simp; omega
      have f2 : decide ((i : Int) < 3) = true := by simp; omega
      have hmul : (P : Int) * (n : Int) = ((P * n : Nat) : Int) := by simp
      have hle : P * n ≤ 1728 * 12 := Nat.mul_le_mul hPl hn
      have hw : IntKind.i64.wrap ((P : Int) * (n : Int)) = ((P * n : Nat) : Int) := by rw [hmul]; exact IntWalk.i64_in _ (by omega)
      clear hmul
      obtain ⟨Z, hZ⟩ : ∃ Z, P * n = Z := ⟨_, rfl⟩
      rw [hZ] at hw
      have HZ : Hid (Z = n ^ (i + 1)) := Lib.hid (by rw [← hZ, HI.out.2, Nat.pow_succ])
      clear hZ hle
      go_wp2_with fail
      go_roundg (k - (i + 1))
      case measure => rw [HI.out.1]; omega
      case rel => exact ⟨i + 1, Z, rfl, rfl, HZ.out, rfl, by omega, rfl⟩
    · have hie : i = k := by omega
      subst hie
      have f0 : decide (i < i) = false := by simp
      go_wp2_with fail
      go_ret
      exact ⟨by rw [HI.out.2]; rfl, rfl⟩

theorem rising_next {P : Int} {zs : List Int} {i : Nat} {z : Int} (h : rising P (-1) (zs.take i) = true) (hz : zs[i]? = some z) (h0 : 0 ≤ z) (h1 : z < P) (hp : ∀ y, 0 < i → zs[i - 1]? = some y → y < z) : rising P (-1) (zs.take (i + 1)) = true := by
  obtain ⟨h2, h3⟩ := rising_iff.1 h
  refine rising_iff.2 ⟨up_next h2 hz hp, fun y hy => ?_⟩
  rw [List.take_add_one, hz, Option.toList_some, List.mem_append, List.mem_singleton] at hy
  rcases hy with hy | rfl
  · exact h3 y hy
  · exact ⟨by omega, h1⟩
theorem rising_out {P : Int} {zs : List Int} {i : Nat} {z : Int} (hz : zs[i]? = some z) (h : z < 0 ∨ P ≤ z) : rising P (-1) zs = false := by
  cases hu : rising P (-1) zs with
  | false => rfl
  | true => have := (rising_iff.1 hu).2 z (List.mem_of_getElem? hz); omega
theorem rising_fall {P : Int} {zs : List Int} {i : Nat} {y z : Int} (hi : 0 < i) (hy : zs[i - 1]? = some y) (hz : zs[i]? = some z) (h : z ≤ y) : rising P (-1) zs = false := by
  cases hu : rising P (-1) zs with
  | false => rfl
  | true => have := up_get (rising_iff.1 hu).1 (show i - 1 < i by omega) hy hz; omega

set_option maxRecDepth 100000 in
set_option maxHeartbeats 8000000 in
theorem tValid_calls (n x : Int) (zs : List Int) (a : Option Addr) (c : Nat) (w : World) (h : IntsW w a c zs) (hl : zs.length ≤ 100000) :
    Calls Try.prog 73 #[.int .i64 n, .agg #[.int .i64 x, .slice a zs.length c]] w fun e w' => e = .returned (.bool (relValid n x zs)) ∧ w.grownBy w' none := by
  obtain ⟨k, hk⟩ : ∃ k, zs.length = k := ⟨_, rfl⟩
  rw [hk] at hl ⊢
  have hg := World.grownBy_alloc w (.cells #[.int .i64 x, .slice a k c] 53) none
  have HN := Lib.hid (And.intro hk (h.grown hg)); clear hk h
  have k0 : (w.alloc (.cells #[.int .i64 x, .slice a k c] 53)).cell? ⟨w.heap.size, 0, none⟩ = some (.int .i64 x) := by go_simp
  have k1 : (w.alloc (.cells #[.int .i64 x, .slice a k c] 53)).cell? ⟨w.heap.size, 1, none⟩ = some (.slice a k c) := by go_simp
  obtain ⟨W, hW⟩ : ∃ W, w.alloc (.cells #[.int .i64 x, .slice a k c] 53) = W := ⟨_, rfl⟩
  rw [hW] at hg HN k0 k1
  have HG := Lib.hid hg; clear hg
  have HR : Hid (∀ b, b = relValid n x zs → relValid n x zs = b) := Lib.hid (fun b h => h.symm)
  have HNO : Hid (¬ (0 ≤ n ∧ n ≤ 12 ∧ 1 ≤ x ∧ x ≤ 3) → relValid n x zs = false) := Lib.hid (fun hc => by
    cases hr : relValid n x zs with
    | false => rfl
    | true => exact absurd (relValid_iff.1 hr).1 hc)
  by_cases c0 : n < 0
  · have f0 : decide (n < 0) = true := decide_eq_true c0
    have HF := Lib.hid (HNO.out (by omega))
    clear c0 HR HNO
    go_enter Try.func73, Try.ntmps73
    go_wp2_with fail
    go_ret
    exact ⟨by rw [HF.out]; rfl, HG.out⟩
  have f0 : decide (n < 0) = false := decide_eq_false c0
  by_cases c1 : 12 < n
  · have f1 : decide (12 < n) = true := decide_eq_true c1
    have HF := Lib.hid (HNO.out (by omega))
    clear c0 c1 HR HNO
    go_enter Try.func73, Try.ntmps73
    go_wp2_with fail
    go_ret
    exact ⟨by rw [HF.out]; rfl, HG.out⟩
  have f1 : decide (12 < n) = false := decide_eq_false c1
  by_cases c2 : x < 1
  · have f2 : decide (x < 1) = true := decide_eq_true c2
    have HF := Lib.hid (HNO.out (by omega))
    clear c0 c1 c2 HR HNO
    go_enter Try.func73, Try.ntmps73
    go_wp2_with fail
    go_ret
    exact ⟨by rw [HF.out]; rfl, HG.out⟩
  have f2 : decide (x < 1) = false := decide_eq_false c2
  by_cases c3 : 3 < x
  · have f3 : decide (3 < x) = true := decide_eq_true c3
    have HF := Lib.hid (HNO.out (by omega))
    clear c0 c1 c2 c3 HR HNO
    go_enter Try.func73, Try.ntmps73
    go_wp2_with fail
    go_ret
    exact ⟨by rw [HF.out]; rfl, HG.out⟩
  have f3 : decide (3 < x) = false := decide_eq_false c3
  obtain ⟨P, hP⟩ : ∃ P, n.toNat ^ x.toNat = P := ⟨_, rfl⟩
  have HPW := Lib.hid (fun (U : World) => by
    have h := power9_calls n.toNat x.toNat U (by omega) (by omega)
    rw [Int.toNat_of_nonneg (by omega), Int.toNat_of_nonneg (by omega), hP] at h
    exact h)
  have HV : Hid (relValid n x zs = rising (P : Int) (-1) zs) := Lib.hid (by
    rw [relValid, hP, decide_eq_true (show 0 ≤ n by omega), decide_eq_true (show n ≤ 12 by omega), decide_eq_true (show 1 ≤ x by omega), decide_eq_true (show x ≤ 3 by omega)]; rfl)
  clear c0 c1 c2 c3 HR HNO hP
  go_enter Try.func73, Try.ntmps73
  go_wp2_with fail
  clear hW f0 f1 f2 f3
  have HK := Lib.hid (And.intro k0 k1); clear k0 k1
  go_loopg [5] k (fun g s5 wr => ∃ i : Nat, s5 = .int .i64 (i : Int) ∧ g = k - i ∧ i ≤ k ∧ rising (P : Int) (-1) (zs.take i) = true ∧ ∃ q, wr = W.drewN q)
  case atStart => exact ⟨0, rfl, rfl, Nat.zero_le _, rfl, 0, rfl⟩
  case round =>
    obtain ⟨i, rfl, hgi, hi, hok, q, rfl⟩ := hrel
    have HI := Lib.hid (And.intro hgi (And.intro hok trivial)); clear hgi hok
    have k0 := HK.out.1
    have k1 := HK.out.2
    by_cases hin : i < k
    · have hinB : decide (i < k) = true := by simpa using hin
      have hinI : (i : Int) < (k : Int) := by omega
      obtain ⟨z, hz⟩ : ∃ z, zs[i]? = some z := ⟨_, List.getElem?_eq_getElem (by rw [HN.out.1]; exact hin)⟩
      obtain ⟨b, o, rfl, hcell⟩ := HN.out.2.at hz
      by_cases hneg : z < 0
      · have f0 : decide (z < 0) = true := decide_eq_true hneg
        have HF : Hid (relValid n x zs = false) := Lib.hid (by rw [HV.out]; exact rising_out hz (.inl hneg))
        clear hz hneg
        go_wp2
        go_quiet (exact (HPW.out _).mono (fun _ _ h => ⟨h.1, _, h.2⟩))
        go_wp2
        go_ret
        exact ⟨by rw [HF.out]; rfl, HG.out.trans ((grown_drewN _ _ _).trans (grown_drewN _ _ _))⟩
      have f0 : decide (z < 0) = false := decide_eq_false hneg
      by_cases hbig : (P : Int) ≤ z
      · have f1 : decide ((P : Int) ≤ z) = true := decide_eq_true hbig
        have HF : Hid (relValid n x zs = false) := Lib.hid (by rw [HV.out]; exact rising_out hz (.inr hbig))
        clear hz hneg hbig
        go_wp2
        go_quiet (exact (HPW.out _).mono (fun _ _ h => ⟨h.1, _, h.2⟩))
        go_wp2
        go_ret
        exact ⟨by rw [HF.out]; rfl, HG.out.trans ((grown_drewN _ _ _).trans (grown_drewN _ _ _))⟩
      have f1 : decide ((P : Int) ≤ z) = false := decide_eq_false hbig
      cases i with
      | zero =>
        have HSN : Hid (rising (P : Int) (-1) (zs.take 1) = true) := Lib.hid (rising_next HI.out.2.1 hz (by omega) (by omega) (fun y h0 => absurd h0 (Nat.lt_irrefl 0)))
        rw [Nat.add_zero] at hcell
        clear hz hneg hbig
        go_wp2
        go_quiet (exact (HPW.out _).mono (fun _ _ h => ⟨h.1, _, h.2⟩))
        go_wp2
        go_roundg (k - (1))
        case measure => rw [HI.out.1]; omega
        case rel => exact ⟨1, rfl, rfl, by omega, HSN.out, _, rfl⟩
      | succ j =>
        obtain ⟨y, hy⟩ : ∃ y, zs[j]? = some y := ⟨_, List.getElem?_eq_getElem (by rw [HN.out.1]; omega)⟩
        obtain ⟨b', o', e', hcell'⟩ := HN.out.2.at hy
        injection e' with e'
        injection e' with e1 e2 _
        subst e1 e2
        have hj0 : (0 : Int) ≤ (j : Int) := by omega
        have hj1 : (0 : Int) ≤ (j : Int) + 1 := by omega
        have hj2 : (j : Int) + 1 < (k : Int) := by omega
        have hj3 : (j : Int) < (k : Int) := by omega
        have hwj : IntKind.i64.wrap (j : Int) = (j : Int) := IntWalk.i64_in _ (by omega)
        have f2 : decide (0 < (j : Int) + 1) = true := decide_eq_true (by omega)
        by_cases hfall : z ≤ y
        · have f3 : decide (z ≤ y) = true := decide_eq_true hfall
          have HF : Hid (relValid n x zs = false) := Lib.hid (by rw [HV.out]; exact rising_fall (i := j + 1) (by omega) hy hz hfall)
          clear hz hy hneg hfall hbig
          go_wp2
          go_quiet (exact (HPW.out _).mono (fun _ _ h => ⟨h.1, _, h.2⟩))
          go_wp2
          go_ret
          exact ⟨by rw [HF.out]; rfl, HG.out.trans ((grown_drewN _ _ _).trans (grown_drewN _ _ _))⟩
        · have f3 : decide (z ≤ y) = false := decide_eq_false hfall
          have HSN : Hid (rising (P : Int) (-1) (zs.take (j + 1 + 1)) = true) := Lib.hid (rising_next HI.out.2.1 hz (by omega) (by omega) (fun y' _ hy' => by
            rw [Nat.add_sub_cancel, hy] at hy'
            cases hy'
            omega))
          clear hz hy hneg hfall hbig
          go_wp2
          go_quiet (exact (HPW.out _).mono (fun _ _ h => ⟨h.1, _, h.2⟩))
          go_wp2
          go_roundg (k - (j + 1 + 1))
          case measure => rw [HI.out.1]; omega
          case rel => exact ⟨j + 1 + 1, rfl, rfl, by omega, HSN.out, _, rfl⟩
    · have hie : i = k := by omega
      subst hie
      have hinB : decide (i < i) = false := by simp
      have HF : Hid (relValid n x zs = true) := Lib.hid (by rw [HV.out]; have := HI.out.2.1; rwa [List.take_of_length_le (by rw [HN.out.1]; exact Nat.le_refl _)] at this)
      go_wp2_with fail
      go_ret
      exact ⟨by rw [HF.out]; rfl, HG.out.trans (grown_drewN _ _ _)⟩
end Go.Proofs.Ytbddpjofhddilaa
