/- Well-formed proofs: the program's walk over the steps. -/
import Derived.Test.YtgeidnfigncepaaDoorF
namespace Go.Proofs.YtgeidnfigncepaaDoor
open Go.RowKit

theorem unk_calls (v x : Int) (b : Nat) (w : World) (hc : w.cell? ⟨b, 0, none⟩ = some (.int .i64 v)) (hv : 0 ≤ v ∧ v ≤ 20001) :
    Calls Tryd.prog 20 #[.int .i64 x, .pointer (some ⟨b, 0, none⟩)] w fun e w' => e = .returned (.bool (unkB v x)) ∧ w = w' := by
  obtain ⟨hv1, hv2⟩ := hv
  by_cases h0 : x = 0
  · have hB : (x == 0) = true := by simpa using h0
    have HR : Hid (unkB v x = true) := Lib.hid (by simp [unkB, h0])
    clear h0
    go_enter Tryd.func20, Tryd.ntmps20
    go_wp2
    go_ret
    exact ⟨by rw [HR.out]; rfl, rfl⟩
  · have hB : (x == 0) = false := by simpa using h0
    by_cases h1 : v < x
    · have hB1 : decide (v < x) = true := by simpa using h1
      have HR : Hid (unkB v x = true) := Lib.hid (by simp [unkB, h1])
      go_enter Tryd.func20, Tryd.ntmps20
      go_wp2
      go_ret
      exact ⟨by rw [HR.out]; rfl, rfl⟩
    · have hB1 : decide (v < x) = false := by simpa using h1
      have HR : Hid (unkB v x = decide (x < -v)) := Lib.hid (by simp [unkB, h0, h1])
      clear h0
      go_enter Tryd.func20, Tryd.ntmps20
      go_wp2
      go_ret
      exact ⟨by rw [HR.out]; rfl, rfl⟩

set_option maxHeartbeats 1000000 in
theorem indexUnk_calls (v : Int) (bk : Nat) (l : List Int) (a : Option Addr) (c : Nat) (w : World) (h : Ints w a c l) (hc : w.cell? ⟨bk, 0, none⟩ = some (.int .i64 v)) (hv : 0 ≤ v ∧ v ≤ 20001) (hl : (l.length : Int) ≤ 9223372036854775807) :
    Calls Tryd.prog 34 #[.slice a l.length c, .func (.func 20) #[] #[.pointer (some ⟨bk, 0, none⟩)]] w fun e w' => (∃ r : Int, e = .returned (.int .i64 r) ∧ decide (0 ≤ r) = l.any (unkB v)) ∧ w = w' := by
  obtain ⟨n, hn⟩ : ∃ n, l.length = n := ⟨_, rfl⟩
  rw [hn] at hl ⊢
  have HN := Lib.hid (And.intro hn (And.intro h hv)); clear hn h hv
  have HC := Lib.hid hc; clear hc
  go_enter Tryd.func34, Tryd.ntmps34
  go_wp2
  go_loopg [8] n (fun g s8 wr => ∃ i : Nat, s8 = .int .i64 (i : Int) ∧ g = n - i ∧ i ≤ n ∧ (∀ x ∈ l.take i, unkB v x = false) ∧ w = wr)
  case atStart => exact ⟨0, rfl, rfl, Nat.zero_le _, fun x hx => (by simp at hx), rfl⟩
  case round =>
    obtain ⟨i, rfl, hgi, hi, hok, rfl⟩ := hrel
    have HGI := Lib.hid (And.intro hgi hok); clear hgi hok
    by_cases hin : i < n
    · have hinB : decide (i < n) = true := by simpa using hin
      have hinI : (i : Int) < (n : Int) := by omega
      obtain ⟨x, hx⟩ : ∃ x, l[i]? = some x := ⟨_, List.getElem?_eq_getElem (by rw [HN.out.1]; exact hin)⟩
      obtain ⟨b, o, rfl, c0⟩ := HN.out.2.1.2 i x hx
      have HX := Lib.hid hx; clear hx
      go_wp2_with fail
      refine (unk_calls v x bk w HC.out HN.out.2.2).mono ?_
      rintro e w' ⟨rfl, rfl⟩
      obtain ⟨B, hB⟩ : ∃ B, unkB v x = B := ⟨_, rfl⟩
      rw [hB]
      have HB := Lib.hid hB; clear hB
      cases B with
      | true =>
        go_wp2_with fail
        go_ret
        exact ⟨⟨_, rfl, by rw [List.any_eq_true.2 ⟨x, List.mem_of_getElem? HX.out, HB.out⟩]; simp⟩, rfl⟩
      | false =>
        go_wp2_with fail
        go_roundg (n - (i + 1))
        case measure => rw [HGI.out.1]; omega
        case rel => exact ⟨i + 1, rfl, rfl, by omega, fun y hy => by
          rw [List.take_add_one, HX.out, Option.toList_some, List.mem_append] at hy
          rcases hy with hy | hy
          · exact HGI.out.2 y hy
          · rw [List.mem_singleton] at hy; subst hy; exact HB.out, rfl⟩
    · have hie : i = n := by omega
      subst hie
      have hinB : decide (i < i) = false := by simp
      go_wp2
      go_ret
      refine ⟨⟨-1, rfl, ?_⟩, rfl⟩
      have h1 := HGI.out.2
      rw [List.take_of_length_le (by rw [HN.out.1]; exact Nat.le_refl _)] at h1
      rw [show l.any (unkB v) = false from List.any_eq_false.2 (fun x hx => by rw [h1 x hx]; simp)]
      rfl

theorem anyUnk_calls (v : Int) (bk : Nat) (l : List Int) (n : Nat) (hn : l.length = n) (a : Option Addr) (c : Nat) (w : World) (h : Ints w a c l) (hc : w.cell? ⟨bk, 0, none⟩ = some (.int .i64 v)) (hv : 0 ≤ v ∧ v ≤ 20001) (hl : (l.length : Int) ≤ 9223372036854775807) :
    Calls Tryd.prog 22 #[.slice a n c, .func (.func 20) #[] #[.pointer (some ⟨bk, 0, none⟩)]] w fun e w' => e = .returned (.bool (l.any (unkB v))) ∧ w = w' := by
  have H := indexUnk_calls v bk l a c w h hc hv hl
  rw [hn] at H
  have HH := Lib.hid H; clear H h hc hv hl hn
  go_enter Tryd.func22, Tryd.ntmps22
  go_wp2_with fail
  refine HH.out.mono ?_
  rintro e w' ⟨⟨r, rfl, hr⟩, rfl⟩
  have HR := Lib.hid hr; clear hr
  go_wp2
  go_ret
  exact ⟨by rw [← HR.out]; rfl, rfl⟩
end Go.Proofs.YtgeidnfigncepaaDoor
