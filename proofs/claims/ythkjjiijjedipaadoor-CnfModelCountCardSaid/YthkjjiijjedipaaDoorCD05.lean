/- Texts of the proof: M1. -/
import Derived.Test.YthkjjiijjedipaaDoorCD04
namespace Go.Proofs.YthkjjiijjedipaaDoor
open Go.RowKit

theorem list_ne {α : Type} {xs ys : List α} {i : Nat} {x y : α} (hx : xs[i]? = some x) (hy : ys[i]? = some y) (h : x ≠ y) : xs ≠ ys := by
  rintro rfl; rw [hx] at hy; cases hy; exact h rfl
theorem list_eq {α : Type} {xs ys : List α} {n : Nat} (hx : xs.length = n) (hy : ys.length = n) (h : ∀ j, j < n → xs[j]? = ys[j]?) : xs = ys := by
  apply List.ext_getElem?
  intro j
  by_cases hj : j < n
  · exact h j hj
  · rw [List.getElem?_eq_none (by omega), List.getElem?_eq_none (by omega)]
theorem agree_step {α : Type} {xs ys : List α} {i : Nat} (h : ∀ j, j < i → xs[j]? = ys[j]?) (hi : xs[i]? = ys[i]?) : ∀ j, j < i + 1 → xs[j]? = ys[j]? := by
  intro j hj
  by_cases hji : j < i
  · exact h j hji
  · have : j = i := by omega
    subst this; exact hi
/-- A row of clauses that is read. -/
def ClsW (w : World) (a : Option Addr) (c : Nat) (l : List (List Int)) : Prop :=
  l.length ≤ c ∧ (l = [] ∨ ∃ b o, a = some ⟨b, o, none⟩ ∧ ∀ (j : Nat) (z : List Int), l[j]? = some z → ∃ a' c', w.cell? ⟨b, o + j, none⟩ = some (.slice a' z.length c') ∧ IntsW w a' c' z)
theorem ClsW.grown {w w' : World} {a : Option Addr} {c : Nat} {l : List (List Int)} (h : ClsW w a c l) (hg : w.grownBy w' none) : ClsW w' a c l := by
  obtain ⟨h1, h | ⟨b, o, h2, h3⟩⟩ := h
  · exact ⟨h1, .inl h⟩
  · exact ⟨h1, .inr ⟨b, o, h2, fun j z hz => by obtain ⟨a', c', h4, h5⟩ := h3 j z hz; exact ⟨a', c', hg.cell h4 (by simp), h5.grown hg⟩⟩⟩
theorem ClsW.at {w : World} {a : Option Addr} {c : Nat} {l : List (List Int)} (h : ClsW w a c l) {i : Nat} {z : List Int} (hz : l[i]? = some z) : ∃ b o a' c', a = some ⟨b, o, none⟩ ∧ w.cell? ⟨b, o + i, none⟩ = some (.slice a' z.length c') ∧ IntsW w a' c' z := by
  obtain ⟨h1, h | ⟨b, o, h2, h3⟩⟩ := h
  · subst h; simp at hz
  · obtain ⟨a', c', h4, h5⟩ := h3 i z hz
    exact ⟨b, o, a', c', h2, h4, h5⟩
theorem clsW_nil (w : World) (a : Option Addr) (c : Nat) : ClsW w a c [] := ⟨Nat.zero_le _, .inl rfl⟩
/-- A formula as a value. -/
abbrev cnfV (v : Int) (a : Option Addr) (n c : Nat) : Value := .agg #[.int .i64 v, .slice a n c]

set_option maxHeartbeats 1000000 in
theorem sameInts_calls (xs ys : List Int) (a a' : Option Addr) (c c' : Nat) (w : World) (h : IntsW w a c xs) (h' : IntsW w a' c' ys) (hl : xs.length ≤ 100000) :
    Calls Tryd.prog 19 #[.slice a xs.length c, .slice a' ys.length c'] w fun e w' => e = .returned (.bool (decide (xs = ys))) ∧ ∃ q, w' = w.drewN q := by
  obtain ⟨n, hn⟩ : ∃ n, xs.length = n := ⟨_, rfl⟩
  obtain ⟨m, hm⟩ : ∃ m, ys.length = m := ⟨_, rfl⟩
  rw [hn] at hl ⊢
  rw [hm]
  have HN := Lib.hid (And.intro hn hm)
  have HH := Lib.hid (And.intro h h'); clear h h'
  by_cases hnm : n = m
  · have hB : ((n : Int) != (m : Int)) = false := by simp; omega
    subst hnm
    clear hn hm
    go_enter Tryd.func19, Tryd.ntmps19
    go_wp2
    go_loopg [5] n (fun g s5 wr => ∃ i : Nat, s5 = .int .i64 (i : Int) ∧ g = n - i ∧ i ≤ n ∧ (∀ j, j < i → xs[j]? = ys[j]?) ∧ ∃ q, wr = w.drewN q)
    case atStart => exact ⟨0, rfl, rfl, Nat.zero_le _, fun j hj => absurd hj (Nat.not_lt_zero _), 0, rfl⟩
    case round =>
      obtain ⟨i, rfl, hgi, hi, hok, q, rfl⟩ := hrel
      have HGI := Lib.hid (And.intro hgi hok); clear hgi hok
      by_cases hin : i < n
      · have hinB : decide (i < n) = true := by simpa using hin
        have hinI : (i : Int) < (n : Int) := by omega
        obtain ⟨x, hx⟩ : ∃ x, xs[i]? = some x := ⟨_, List.getElem?_eq_getElem (by rw [HN.out.1]; exact hin)⟩
        obtain ⟨y, hy⟩ : ∃ y, ys[i]? = some y := ⟨_, List.getElem?_eq_getElem (by rw [HN.out.2]; exact hin)⟩
        obtain ⟨b, o, rfl, c0⟩ := HH.out.1.at hx
        obtain ⟨b', o', rfl, d0⟩ := HH.out.2.at hy
        have HX := Lib.hid (And.intro hx hy); clear hx hy
        by_cases hk : x = y
        · have k1 : (x != y) = false := by simpa using hk
          subst hk
          go_wp2
          go_quiet (fail)
          go_wp2
          go_roundg (n - (i + 1))
          case measure => rw [HGI.out.1]; omega
          case rel => exact ⟨i + 1, rfl, rfl, by omega, agree_step HGI.out.2 (by rw [HX.out.1, HX.out.2]), _, rfl⟩
        · have k1 : (x != y) = true := by simpa using hk
          have HR : Hid (decide (xs = ys) = false) := Lib.hid (decide_eq_false (list_ne HX.out.1 HX.out.2 hk))
          clear hk
          go_wp2
          go_quiet (fail)
          go_wp2
          go_ret
          exact ⟨by rw [HR.out]; rfl, _, World.drewN_drewN _ _ _⟩
      · have hie : i = n := by omega
        subst hie
        have hinB : decide (i < i) = false := by simp
        have HR : Hid (decide (xs = ys) = true) := Lib.hid (decide_eq_true (list_eq HN.out.1 HN.out.2 HGI.out.2))
        go_wp2
        go_ret
        exact ⟨by rw [HR.out]; rfl, _, rfl⟩
  · have hB : ((n : Int) != (m : Int)) = true := by simp; omega
    have HR : Hid (decide (xs = ys) = false) := Lib.hid (decide_eq_false (by rintro rfl; omega))
    clear hn hm
    go_enter Tryd.func19, Tryd.ntmps19
    go_wp2
    go_ret
    exact ⟨by rw [HR.out]; rfl, 0, rfl⟩

set_option maxHeartbeats 1000000 in
theorem sameBools_calls (xs ys : List Bool) (a a' : Option Addr) (c c' : Nat) (w : World) (h : BoolsW w a c xs) (h' : BoolsW w a' c' ys) (hl : xs.length ≤ 100000) :
    Calls Tryd.prog 17 #[.slice a xs.length c, .slice a' ys.length c'] w fun e w' => e = .returned (.bool (decide (xs = ys))) ∧ ∃ q, w' = w.drewN q := by
  obtain ⟨n, hn⟩ : ∃ n, xs.length = n := ⟨_, rfl⟩
  obtain ⟨m, hm⟩ : ∃ m, ys.length = m := ⟨_, rfl⟩
  rw [hn] at hl ⊢
  rw [hm]
  have HN := Lib.hid (And.intro hn hm)
  have HH := Lib.hid (And.intro h h'); clear h h'
  by_cases hnm : n = m
  · have hB : ((n : Int) != (m : Int)) = false := by simp; omega
    subst hnm
    clear hn hm
    go_enter Tryd.func17, Tryd.ntmps17
    go_wp2
    go_loopg [5] n (fun g s5 wr => ∃ i : Nat, s5 = .int .i64 (i : Int) ∧ g = n - i ∧ i ≤ n ∧ (∀ j, j < i → xs[j]? = ys[j]?) ∧ ∃ q, wr = w.drewN q)
    case atStart => exact ⟨0, rfl, rfl, Nat.zero_le _, fun j hj => absurd hj (Nat.not_lt_zero _), 0, rfl⟩
    case round =>
      obtain ⟨i, rfl, hgi, hi, hok, q, rfl⟩ := hrel
      have HGI := Lib.hid (And.intro hgi hok); clear hgi hok
      by_cases hin : i < n
      · have hinB : decide (i < n) = true := by simpa using hin
        have hinI : (i : Int) < (n : Int) := by omega
        obtain ⟨x, hx⟩ : ∃ x, xs[i]? = some x := ⟨_, List.getElem?_eq_getElem (by rw [HN.out.1]; exact hin)⟩
        obtain ⟨y, hy⟩ : ∃ y, ys[i]? = some y := ⟨_, List.getElem?_eq_getElem (by rw [HN.out.2]; exact hin)⟩
        obtain ⟨b, o, rfl, c0⟩ := HH.out.1.at hx
        obtain ⟨b', o', rfl, d0⟩ := HH.out.2.at hy
        have HX := Lib.hid (And.intro hx hy); clear hx hy
        by_cases hk : x = y
        · have k1 : (x != y) = false := by simpa using hk
          subst hk
          go_wp2
          go_quiet (fail)
          go_wp2
          go_roundg (n - (i + 1))
          case measure => rw [HGI.out.1]; omega
          case rel => exact ⟨i + 1, rfl, rfl, by omega, agree_step HGI.out.2 (by rw [HX.out.1, HX.out.2]), _, rfl⟩
        · have k1 : (!(x == y)) = true := by simpa using hk
          have HR : Hid (decide (xs = ys) = false) := Lib.hid (decide_eq_false (list_ne HX.out.1 HX.out.2 hk))
          clear hk
          go_wp2
          go_quiet (fail)
          go_wp2
          go_ret
          exact ⟨by rw [HR.out]; rfl, _, World.drewN_drewN _ _ _⟩
      · have hie : i = n := by omega
        subst hie
        have hinB : decide (i < i) = false := by simp
        have HR : Hid (decide (xs = ys) = true) := Lib.hid (decide_eq_true (list_eq HN.out.1 HN.out.2 HGI.out.2))
        go_wp2
        go_ret
        exact ⟨by rw [HR.out]; rfl, _, rfl⟩
  · have hB : ((n : Int) != (m : Int)) = true := by simp; omega
    have HR : Hid (decide (xs = ys) = false) := Lib.hid (decide_eq_false (by rintro rfl; omega))
    clear hn hm
    go_enter Tryd.func17, Tryd.ntmps17
    go_wp2
    go_ret
    exact ⟨by rw [HR.out]; rfl, 0, rfl⟩

theorem inputs_calls (m : Nat) (hm : m < 256) (w : World) : Calls Tryd.prog 11 #[.int .u8 (m : Int)] w fun e w' => e = .returned (.int .i64 ((8 + m % 4 : Nat) : Int)) ∧ w' = w := by
  have h1 : IntKind.i64.wrap (m : Int) = (m : Int) := IntWalk.i64_in _ (by omega)
  have h2 : (m : Int).tmod 4 = ((m % 4 : Nat) : Int) := by rw [Int.tmod_eq_emod_of_nonneg (by omega)]; omega
  have h3 : IntKind.i64.wrap ((m % 4 : Nat) : Int) = ((m % 4 : Nat) : Int) := IntWalk.i64_in _ (by omega)
  have h4 : IntKind.i64.wrap (8 + ((m % 4 : Nat) : Int)) = 8 + ((m % 4 : Nat) : Int) := IntWalk.i64_in _ (by omega)
  obtain ⟨r, hr⟩ : ∃ r, m % 4 = r := ⟨_, rfl⟩
  rw [hr] at h2 h3 h4 ⊢
  go_enter Tryd.func11, Tryd.ntmps11
  go_wp2
  go_ret
  exact ⟨rfl, rfl⟩
end Go.Proofs.YthkjjiijjedipaaDoor
