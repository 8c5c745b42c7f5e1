/- Whether a relation's tuples rise; whether a row of numbers has a number. -/
import Derived.Test.YtbddpjofhddilaaYA
import Derived.BigQuiet
namespace Go.Proofs.Ytbddpjofhddilaa
open Go.RowKit

set_option maxRecDepth 100000 in
set_option maxHeartbeats 4000000 in
theorem up_calls (k : Int) (zs : List Int) (a : Option Addr) (c : Nat) (w : World) (h : IntsW w a c zs) (hl : zs.length ≤ 100000) :
    Calls Try.prog 101 #[.agg #[.int .i64 k, .slice a zs.length c]] w fun e w' => e = .returned (.bool (upB zs)) ∧ w.grownBy w' none := by
  obtain ⟨n, hn⟩ : ∃ n, zs.length = n := ⟨_, rfl⟩
  rw [hn] at hl ⊢
  have hg := World.grownBy_alloc w (.cells #[.int .i64 k, .slice a n c] 53) none
  have HN := Lib.hid (And.intro hn (h.grown hg)); clear hn h
  have k1 : (w.alloc (.cells #[.int .i64 k, .slice a n c] 53)).cell? ⟨w.heap.size, 1, none⟩ = some (.slice a n c) := by go_simp
  obtain ⟨W, hW⟩ : ∃ W, w.alloc (.cells #[.int .i64 k, .slice a n c] 53) = W := ⟨_, rfl⟩
  rw [hW] at hg HN k1
  have HG := Lib.hid hg; clear hg
  go_enter Try.func101, Try.ntmps101
  go_wp2_with fail
  clear hW
  go_loopg [3] n (fun g s3 wr => ∃ i : Nat, s3 = .int .i64 (i : Int) ∧ g = n - i ∧ i ≤ n ∧ upB (zs.take i) = true ∧ ∃ q, wr = W.drewN q)
  case atStart => exact ⟨0, rfl, rfl, Nat.zero_le _, upB_iff.2 ⟨by simp, by simp⟩, 0, rfl⟩
  case round =>
    obtain ⟨i, rfl, hgi, hi, hok, q, rfl⟩ := hrel
    have HI := Lib.hid (And.intro hgi hok); clear hgi hok
    by_cases hin : i < n
    · have hinB : decide (i < n) = true := by simpa using hin
      have hinI : (i : Int) < (n : Int) := by omega
      obtain ⟨z, hz⟩ : ∃ z, zs[i]? = some z := ⟨_, List.getElem?_eq_getElem (by rw [HN.out.1]; exact hin)⟩
      obtain ⟨b, o, rfl, hcell⟩ := HN.out.2.at hz
      by_cases hneg : z < 0
      · have f0 : decide (z < 0) = true := decide_eq_true hneg
        have HR : Hid (upB zs = false) := Lib.hid (upB_neg hz hneg)
        clear hz hneg
        go_wp2
        go_quiet (fail)
        go_wp2
        go_ret
        exact ⟨by rw [HR.out]; rfl, HG.out.trans ((grown_drewN _ _ _).trans (grown_drewN _ _ _))⟩
      have f0 : decide (z < 0) = false := decide_eq_false hneg
      cases i with
      | zero =>
        have HS : Hid (upB (zs.take 1) = true) := Lib.hid (upB_next HI.out.2 hz (by omega) (fun y h0 => absurd h0 (Nat.lt_irrefl 0)))
        rw [Nat.add_zero] at hcell
        clear hz hneg
        go_wp2
        go_quiet (fail)
        go_wp2
        go_roundg (n - 1)
        case measure => rw [HI.out.1]; omega
        case rel => exact ⟨1, rfl, rfl, by omega, HS.out, _, rfl⟩
      | succ j =>
        obtain ⟨y, hy⟩ : ∃ y, zs[j]? = some y := ⟨_, List.getElem?_eq_getElem (by rw [HN.out.1]; omega)⟩
        obtain ⟨b', o', e', hcell'⟩ := HN.out.2.at hy
        injection e' with e'
        injection e' with e1 e2 _
        subst e1 e2
        have hj0 : (0 : Int) ≤ (j : Int) := by omega
        have hj1 : (0 : Int) ≤ (j : Int) + 1 := by omega
        have hj2 : (j : Int) + 1 < (n : Int) := by omega
        have hj3 : (j : Int) < (n : Int) := by omega
        have hwj : IntKind.i64.wrap (j : Int) = (j : Int) := IntWalk.i64_in _ (by omega)
        have f1 : decide (0 < (j : Int) + 1) = true := decide_eq_true (by omega)
        by_cases hfall : z ≤ y
        · have f2 : decide (z ≤ y) = true := decide_eq_true hfall
          have HR : Hid (upB zs = false) := Lib.hid (upB_fall (i := j + 1) (by omega) hy hz hfall)
          clear hz hy hneg hfall
          go_wp2
          go_quiet (fail)
          go_wp2
          go_ret
          exact ⟨by rw [HR.out]; rfl, HG.out.trans ((grown_drewN _ _ _).trans (grown_drewN _ _ _))⟩
        · have f2 : decide (z ≤ y) = false := decide_eq_false hfall
          have HS : Hid (upB (zs.take (j + 1 + 1)) = true) := Lib.hid (upB_next HI.out.2 hz (by omega) (fun y' _ hy' => by
            rw [Nat.add_sub_cancel, hy] at hy'
            cases hy'
            omega))
          clear hz hy hneg hfall
          go_wp2
          go_quiet (fail)
          go_wp2
          go_roundg (n - (j + 1 + 1))
          case measure => rw [HI.out.1]; omega
          case rel => exact ⟨j + 1 + 1, rfl, rfl, by omega, HS.out, _, rfl⟩
    · have hie : i = n := by omega
      subst hie
      have hinB : decide (i < i) = false := by simp
      have HR : Hid (upB zs = true) := Lib.hid (by have := HI.out.2; rwa [List.take_of_length_le (by rw [HN.out.1]; exact Nat.le_refl _)] at this)
      go_wp2
      go_ret
      exact ⟨by rw [HR.out]; rfl, HG.out.trans (grown_drewN _ _ _)⟩

set_option maxRecDepth 100000 in
set_option maxHeartbeats 2000000 in
theorem hasI_calls (zs : List Int) (a : Option Addr) (c : Nat) (z : Int) (w : World) (h : IntsW w a c zs) (hl : zs.length ≤ 100000) :
    Calls Try.prog 110 #[.slice a zs.length c, .int .i64 z] w fun e w' => e = .returned (.bool (decide (z ∈ zs))) ∧ w' = w := by
  obtain ⟨n, hn⟩ : ∃ n, zs.length = n := ⟨_, rfl⟩
  rw [hn] at hl ⊢
  have HN := Lib.hid (And.intro hn h); clear hn h
  go_enter Try.func110, Try.ntmps110
  go_wp2
  go_loopg [5] n (fun g s5 wr => ∃ i : Nat, s5 = .int .i64 (i : Int) ∧ g = n - i ∧ i ≤ n ∧ (∀ j y, j < i → zs[j]? = some y → y ≠ z) ∧ wr = w)
  case atStart => exact ⟨0, rfl, rfl, Nat.zero_le _, fun j _ hj => absurd hj (Nat.not_lt_zero _), rfl⟩
  case round =>
    obtain ⟨i, rfl, hgi, hi, hok, rfl⟩ := hrel
    have HI := Lib.hid (And.intro hgi hok); clear hgi hok
    by_cases hin : i < n
    · have hinB : decide (i < n) = true := by simpa using hin
      have hinI : (i : Int) < (n : Int) := by omega
      obtain ⟨y, hy⟩ : ∃ y, zs[i]? = some y := ⟨_, List.getElem?_eq_getElem (by rw [HN.out.1]; exact hin)⟩
      obtain ⟨b, o, rfl, hcell⟩ := HN.out.2.at hy
      by_cases hyz : y = z
      · have f0 : (y == z) = true := by simpa using hyz
        have HR : Hid (decide (z ∈ zs) = true) := Lib.hid (decide_eq_true (hyz ▸ List.mem_of_getElem? hy))
        clear hy hyz
        go_wp2
        go_ret
        exact ⟨by rw [HR.out]; rfl, rfl⟩
      · have f0 : (y == z) = false := by simpa using hyz
        have HS : Hid (∀ j x, j < i + 1 → zs[j]? = some x → x ≠ z) := Lib.hid (fun j x hj hx => by
          by_cases hji : j = i
          · subst hji; rw [hy] at hx; cases hx; exact hyz
          · exact HI.out.2 j x (by omega) hx)
        clear hy hyz
        go_wp2
        go_roundg (n - (i + 1))
        case measure => rw [HI.out.1]; omega
        case rel => exact ⟨i + 1, rfl, rfl, by omega, HS.out, rfl⟩
    · have hie : i = n := by omega
      subst hie
      have hinB : decide (i < i) = false := by simp
      have HR : Hid (decide (z ∈ zs) = false) := Lib.hid (decide_eq_false (fun hm => by
        obtain ⟨j, hj⟩ := List.getElem?_of_mem hm
        exact HI.out.2 j z (by have := (List.getElem?_eq_some_iff.1 hj).1; rw [HN.out.1] at this; exact this) hj rfl))
      go_wp2
      go_ret
      exact ⟨by rw [HR.out]; rfl, rfl⟩
end Go.Proofs.Ytbddpjofhddilaa
