/- The examples' plain side; definitions counted; a plain proof. -/
import Derived.Test.YtgeidnfigncepaaDoorS
import Derived.Test.YtgeidnfigncepaaDoorP
import Derived.Test.YtgeidnfigncepaaDoorI
namespace Go.Proofs.YtgeidnfigncepaaDoor
open Go.RowKit

def L0 : List St := [(1, [1, -2], 0), (3, [3, 1, 2], 0), (4, [-1, 3], 1), (2, [], 0)]
def T0 : List UInt8 := [108, 32, 49, 32, 45, 50, 32, 48, 10, 101, 32, 51, 32, 49, 32, 50, 32, 48, 10, 115, 32, 49, 32, 45, 49, 32, 51, 32, 48, 10, 100, 32, 48, 10]
theorem L0_good : GoodL L0 := by
  intro x hx
  simp only [L0, List.mem_cons, List.not_mem_nil, or_false] at hx
  rcases hx with rfl | rfl | rfl | rfl
  all_goals
    refine ⟨by simp, ?_, by simp [GoodN], by simp⟩
    intro y hy
    simp at hy
    try (rcases hy with rfl | rfl | rfl)
    all_goals (first | (rcases hy with rfl | rfl) | skip)
    all_goals simp [GoodN]
theorem numB_pos {u : Nat} (h : u < 10) : numB (u : Int) = [32, UInt8.ofNat (48 + u)] := by
  unfold numB Lib.itoa
  rw [if_neg (by omega), Int.toNat_natCast, Lib.decDigits_one h]
theorem numB_neg {u : Nat} (h : u < 10) (h0 : 0 < u) : numB (-(u : Int)) = [32, 45, UInt8.ofNat (48 + u)] := by
  unfold numB Lib.itoa
  rw [if_pos (by omega), show (-(u : Int)).natAbs = u by omega, Lib.decDigits_one h]
theorem L0_enc : enc L0 = T0 := by
  have p1 : numB 1 = [32, 49] := numB_pos (u := 1) (by omega)
  have p2 : numB 2 = [32, 50] := numB_pos (u := 2) (by omega)
  have p3 : numB 3 = [32, 51] := numB_pos (u := 3) (by omega)
  have m1 : numB (-1) = [32, 45, 49] := numB_neg (u := 1) (by omega) (by omega)
  have m2 : numB (-2) = [32, 45, 50] := numB_neg (u := 2) (by omega) (by omega)
  simp only [L0, enc, List.flatMap_cons, List.flatMap_nil, encS, numsB, p1, p2, p3, m1, m2]
  decide
theorem T0_dec : dec T0 = some L0 := by rw [← L0_enc]; exact dec_enc _ L0_good
theorem T1_dec : dec [108, 32, 48, 49, 32, 48, 10] = none := by
  refine dec_none (by simp) ?_
  show restR 1 0 [32, 48, 49, 32, 48, 10] = none
  refine restR_none (litsR_none ?_)
  decide

set_option maxHeartbeats 1000000 in
theorem defines_calls (l : List St) (n : Nat) (hn : l.length = n) (a : Option Addr) (c : Nat) (w : World) (h : Steps w a c l) (hl : (l.length : Int) ≤ 9223372036854775807) :
    Calls Tryd.prog 18 #[.slice a n c] w fun e w' => e = .returned (.int .i64 (defs l : Nat)) ∧ w = w' := by
  rw [hn] at hl
  have HN := Lib.hid (And.intro hn h); clear hn h
  go_enter Tryd.func18, Tryd.ntmps18
  go_wp2
  go_loopg [3, 4] n (fun g s3 s4 wr => ∃ i q : Nat, s3 = .int .i64 (q : Int) ∧ s4 = .int .i64 (i : Int) ∧ g = n - i ∧ i ≤ n ∧ q ≤ i ∧ q = defs (l.take i) ∧ w = wr)
  case atStart => exact ⟨0, 0, rfl, rfl, rfl, Nat.zero_le _, Nat.le_refl _, rfl, rfl⟩
  case round =>
    obtain ⟨i, q, rfl, rfl, hgi, hi, hqi, hq, rfl⟩ := hrel
    have HGI := Lib.hid (And.intro hgi hq); clear hgi hq
    by_cases hin : i < n
    · have hinB : decide (i < n) = true := by simpa using hin
      have hinI : (i : Int) < (n : Int) := by omega
      obtain ⟨x, hx⟩ : ∃ x, l[i]? = some x := ⟨_, List.getElem?_eq_getElem (by rw [HN.out.1]; exact hin)⟩
      obtain ⟨b, o, rfl, c0, -, -⟩ := HN.out.2.2 i x hx
      have hst : defs (l.take (i + 1)) = defs (l.take i) + if x.1 = 3 then 1 else 0 := by
        rw [List.take_add_one, hx, Option.toList_some]
        by_cases e : x.1 = 3 <;> simp [defs, List.filter_append, e]
      have HX := Lib.hid hst; clear hst hx
      obtain ⟨k, m, s⟩ := x
      simp only at c0
      by_cases hk : k = 3
      · have dk : (k == 3) = true := by simpa using hk
        have HK : Hid (defs (l.take (i + 1)) = q + 1) := Lib.hid (by rw [HX.out, ← HGI.out.2]; simp only [hk, if_true])
        clear hk
        go_wp2
        go_roundg (n - (i + 1))
        case measure => rw [HGI.out.1]; omega
        case rel => exact ⟨i + 1, q + 1, rfl, rfl, rfl, by omega, by omega, HK.out.symm, rfl⟩
      · have dk : (k == 3) = false := by simpa using hk
        have HK : Hid (defs (l.take (i + 1)) = q) := Lib.hid (by rw [HX.out, ← HGI.out.2]; simp only [hk, if_false, Nat.add_zero])
        clear hk
        go_wp2
        go_roundg (n - (i + 1))
        case measure => rw [HGI.out.1]; omega
        case rel => exact ⟨i + 1, q, rfl, rfl, rfl, by omega, by omega, HK.out.symm, rfl⟩
    · have hie : i = n := by omega
      subst hie
      have hinB : decide (i < i) = false := by simp
      have HF : Hid (defs l = q) := Lib.hid (by have := HGI.out.2; rw [List.take_of_length_le (by rw [HN.out.1]; exact Nat.le_refl _)] at this; exact this.symm)
      go_wp2
      go_ret
      exact ⟨by rw [HF.out]; rfl, rfl⟩

set_option maxHeartbeats 1000000 in
theorem plain_calls (l : List St) (n : Nat) (hn : l.length = n) (a : Option Addr) (c : Nat) (w : World) (h : Steps w a c l) (hl : (l.length : Int) ≤ 9223372036854775807) (hg : GoodL l) (hlits : ∀ x ∈ l, (x.2.1.length : Int) ≤ 9223372036854775807) :
    Calls Tryd.prog 17 #[.slice a n c] w fun e w' => e = .returned (.bool true) ∧ w = w' := by
  rw [hn] at hl
  have HN := Lib.hid (And.intro hn (And.intro h (And.intro hg hlits))); clear hn h hg hlits
  go_enter Tryd.func17, Tryd.ntmps17
  go_wp2
  go_loopg [3] n (fun g s3 wr => ∃ i : Nat, s3 = .int .i64 (i : Int) ∧ g = n - i ∧ i ≤ n ∧ w = wr)
  case atStart => exact ⟨0, rfl, rfl, Nat.zero_le _, rfl⟩
  case round =>
    obtain ⟨i, rfl, hgi, hi, rfl⟩ := hrel
    have HGI := Lib.hid hgi; clear hgi
    by_cases hin : i < n
    · have hinB : decide (i < n) = true := by simpa using hin
      have hinI : (i : Int) < (n : Int) := by omega
      obtain ⟨x, hx⟩ : ∃ x, l[i]? = some x := ⟨_, List.getElem?_eq_getElem (by rw [HN.out.1]; exact hin)⟩
      obtain ⟨b, o, rfl, c0, ⟨la, lc, c1, hints⟩, -⟩ := HN.out.2.1.2 i x hx
      obtain ⟨⟨hk1, hk2⟩, hy, -⟩ := HN.out.2.2.1 x (List.mem_of_getElem? hx)
      have hpl := HN.out.2.2.2 x (List.mem_of_getElem? hx)
      obtain ⟨k, m, s⟩ := x
      simp only at c0 c1 hk1 hk2 hy hints hpl
      obtain ⟨p, hp⟩ : ∃ p, m.length = p := ⟨_, rfl⟩
      rw [hp] at c1 hpl
      have HI := Lib.hid (And.intro hints (And.intro hy hp)); clear hints hy hp hx
      have d1 : decide (k < 1) = false := by simp; omega
      have d2 : decide (4 < k) = false := by simp; omega
      go_wp2
      go_loopg [4] p (fun g s4 wr => ∃ j : Nat, s4 = .int .i64 (j : Int) ∧ g = p - j ∧ j ≤ p ∧ w = wr)
      case atStart => exact ⟨0, rfl, rfl, Nat.zero_le _, rfl⟩
      case round =>
        obtain ⟨j, rfl, hgj, hj, rfl⟩ := hrel
        have HGJ := Lib.hid hgj; clear hgj
        by_cases hjp : j < p
        · have hjB : decide (j < p) = true := by simpa using hjp
          have hjI : (j : Int) < (p : Int) := by omega
          obtain ⟨y, hy⟩ : ∃ y, m[j]? = some y := ⟨_, List.getElem?_eq_getElem (by rw [HI.out.2.2]; exact hjp)⟩
          obtain ⟨lb, lo, rfl, ce⟩ := HI.out.1.2 j y hy
          have hy0 : (y == 0) = false := by have := (HI.out.2.1 y (List.mem_of_getElem? hy)).1; simpa using this
          clear hy
          go_wp2
          go_roundg (p - (j + 1))
          case measure => rw [HGJ.out]; omega
          case rel => exact ⟨j + 1, rfl, rfl, by omega, rfl⟩
        · have hje : j = p := by omega
          subst hje
          have hjB : decide (j < j) = false := by simp
          go_wp2
          go_roundg (n - (i + 1))
          case measure => rw [HGI.out]; omega
          case rel => exact ⟨i + 1, rfl, rfl, by omega, rfl⟩
    · have hie : i = n := by omega
      subst hie
      have hinB : decide (i < i) = false := by simp
      go_wp2
      go_ret
      exact ⟨rfl, rfl⟩
end Go.Proofs.YtgeidnfigncepaaDoor
