/- The reference's comparison of two rows of numbers. -/
import Derived.Test.YtbddpjofhddilaaNRW
namespace Go.Proofs.Ytbddpjofhddilaa
open Go.RowKit

set_option maxHeartbeats 1000000 in
theorem rInts_calls (xs ys : List Int) (a a' : Option Addr) (c c' : Nat) (w : World) (h : IntsW w a c xs) (h' : IntsW w a' c' ys) (hl : (xs.length : Int) ≤ 9223372036854775807) :
    Calls Try.prog 78 #[.slice a xs.length c, .slice a' ys.length c'] w fun e w' => e = .returned (.bool (decide (xs = ys))) ∧ ∃ q, w' = w.drewN q := by
  obtain ⟨n, hn⟩ : ∃ n, xs.length = n := ⟨_, rfl⟩
  obtain ⟨m, hm⟩ : ∃ m, ys.length = m := ⟨_, rfl⟩
  rw [hn] at hl ⊢
  rw [hm]
  have HN := Lib.hid (And.intro hn hm)
  have HH := Lib.hid (And.intro h h'); clear h h'
  by_cases hnm : n = m
  · have hB : ((n : Int) != (m : Int)) = false := by simp; omega
    subst hnm
    clear hn hm
    go_enter Try.func78, Try.ntmps78
    go_wp2
    go_loopg [5] n (fun g s5 wr => ∃ i : Nat, s5 = .int .i64 (i : Int) ∧ g = n - i ∧ i ≤ n ∧ (∀ j, j < i → xs[j]? = ys[j]?) ∧ ∃ q, wr = w.drewN q)
    case atStart => exact ⟨0, rfl, rfl, Nat.zero_le _, fun j hj => absurd hj (Nat.not_lt_zero _), 0, rfl⟩
    case round =>
      obtain ⟨i, rfl, hgi, hi, hok, q, rfl⟩ := hrel
      have HGI := Lib.hid (And.intro hgi hok); clear hgi hok
      by_cases hin : i < n
      · have hinB : decide (i < n) = true := by simpa using hin
        have hinI : (i : Int) < (n : Int) := by omega
        obtain ⟨x, hx⟩ : ∃ x, xs[i]? = some x := ⟨_, List.getElem?_eq_getElem (by rw [HN.out.1]; exact hin)⟩
        obtain ⟨y, hy⟩ : ∃ y, ys[i]? = some y := ⟨_, List.getElem?_eq_getElem (by rw [HN.out.2]; exact hin)⟩
        obtain ⟨b, o, rfl, hcell⟩ := HH.out.1.at hx
        obtain ⟨b', o', rfl, hcell'⟩ := HH.out.2.at hy
        have HX := Lib.hid (And.intro hx hy); clear hx hy
        by_cases hxy : x = y
        · subst hxy
          have hb2 : (x != x) = false := by simp
          go_wp2
          go_quiet (fail)
          go_wp2
          go_roundg (n - (i + 1))
          case measure => rw [HGI.out.1]; omega
          case rel => exact ⟨i + 1, rfl, rfl, by omega, agree_step HGI.out.2 (by rw [HX.out.1, HX.out.2]), _, rfl⟩
        · have hb2 : (x != y) = true := by simpa using hxy
          have HR : Hid (decide (xs = ys) = false) := Lib.hid (decide_eq_false (list_ne HX.out.1 HX.out.2 hxy))
          clear hxy
          go_wp2
          go_quiet (fail)
          go_wp2
          go_ret
          exact ⟨by rw [HR.out]; rfl, _, World.drewN_drewN _ _ _⟩
      · have hie : i = n := by omega
        subst hie
        have hinB : decide (i < i) = false := by simp
        have HR : Hid (decide (xs = ys) = true) := Lib.hid (decide_eq_true (list_eq HN.out.1 HN.out.2 HGI.out.2))
        go_wp2
        go_ret
        exact ⟨by rw [HR.out]; rfl, _, rfl⟩
  · have hB : ((n : Int) != (m : Int)) = true := by simp; omega
    have HR : Hid (decide (xs = ys) = false) := Lib.hid (decide_eq_false (by rintro rfl; omega))
    clear hn hm
    go_enter Try.func78, Try.ntmps78
    go_wp2
    go_ret
    exact ⟨by rw [HR.out]; rfl, 0, rfl⟩

end Go.Proofs.Ytbddpjofhddilaa
