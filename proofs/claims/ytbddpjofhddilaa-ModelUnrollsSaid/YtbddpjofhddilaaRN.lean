/- Whether some state has a wrong number of relations; a set of one atom. -/
import Derived.Test.YtbddpjofhddilaaRM
namespace Go.Proofs.Ytbddpjofhddilaa
open Go.RowKit

set_option maxHeartbeats 1000000 in
theorem valid1_calls (k nf : Nat) (a fa : Option Addr) (c fc b : Nat) (w : World) (hb : w.cell? ⟨b, 1, none⟩ = some (.slice fa nf fc)) :
    Calls Try.prog 69 #[.slice a k c, .pointer (some ⟨b, 0, none⟩)] w fun e w' => e = .returned (.bool (k != nf)) ∧ w' = w := by
  by_cases h : k = nf
  · have e1 : ((k : Int) != (nf : Int)) = false := by simp; omega
    have HR : Hid ((k != nf) = false) := Lib.hid (by simpa using h)
    clear h
    go_enter Try.func69, Try.ntmps69
    go_wp2_with fail
    go_ret
    exact ⟨by rw [HR.out]; rfl, rfl⟩
  · have e1 : ((k : Int) != (nf : Int)) = true := by simp; omega
    have HR : Hid ((k != nf) = true) := Lib.hid (by simpa using h)
    clear h
    go_enter Try.func69, Try.ntmps69
    go_wp2_with fail
    go_ret
    exact ⟨by rw [HR.out]; rfl, rfl⟩

/-- Some state has another number of relations. -/
def oddState (nf : Nat) (L : List (List Rl)) : Bool := L.any fun l => l.length != nf

set_option maxRecDepth 100000 in
set_option maxHeartbeats 2000000 in
theorem index1_calls (L : List (List Rl)) (a fa : Option Addr) (c nf fc b : Nat) (w : World) (h : Sts w a c L) (hl : (L.length : Int) ≤ 9223372036854775807) (hb : w.cell? ⟨b, 1, none⟩ = some (.slice fa nf fc)) :
    Calls Try.prog 114 #[.slice a L.length c, .func (.func 69) #[] #[.pointer (some ⟨b, 0, none⟩)]] w fun e w' => (∃ r : Int, e = .returned (.int .i64 r) ∧ decide (0 ≤ r) = oddState nf L) ∧ w' = w := by
  obtain ⟨n, hn⟩ : ∃ n, L.length = n := ⟨_, rfl⟩
  rw [hn] at hl ⊢
  have HN := Lib.hid (And.intro hn h); clear hn h
  have HB := Lib.hid hb; clear hb
  go_enter Try.func114, Try.ntmps114
  go_wp2_with fail
  go_loopg [8] n (fun g s8 wr => ∃ i : Nat, s8 = .int .i64 (i : Int) ∧ g = n - i ∧ i ≤ n ∧ (∀ l ∈ L.take i, l.length = nf) ∧ wr = w)
  case atStart => exact ⟨0, rfl, rfl, Nat.zero_le _, fun l hl => by simp at hl, rfl⟩
  case round =>
    obtain ⟨i, rfl, hgi, hi, hok, rfl⟩ := hrel
    have HGI := Lib.hid (And.intro hgi hok); clear hgi hok
    by_cases hin : i < n
    · have hinB : decide (i < n) = true := by simpa using hin
      have hinI : (i : Int) < (n : Int) := by omega
      obtain ⟨l, hx⟩ : ∃ l, L[i]? = some l := ⟨_, List.getElem?_eq_getElem (by rw [HN.out.1]; exact hin)⟩
      obtain ⟨sb, so, rfl, la, lc, c1, _⟩ := HN.out.2.2 i l hx
      have HX := Lib.hid hx; clear hx
      have HV := Lib.hid (valid1_calls l.length nf la fa lc fc b wr HB.out)
      obtain ⟨p, hp⟩ : ∃ p, l.length = p := ⟨_, rfl⟩
      rw [hp] at c1 HV
      have HP := Lib.hid hp; clear hp
      obtain ⟨R, hR⟩ : ∃ R, (p != nf) = R := ⟨_, rfl⟩
      rw [hR] at HV
      have HR := Lib.hid hR; clear hR
      go_wp2_with fail
      refine HV.out.mono ?_
      rintro e w5 ⟨rfl, rfl⟩
      cases R with
      | true =>
        have HO : Hid (oddState nf L = true) := Lib.hid (List.any_eq_true.2 ⟨l, List.mem_of_getElem? HX.out, by rw [HP.out]; exact HR.out⟩)
        go_wp2_with fail
        go_ret
        exact ⟨⟨(i : Int), rfl, by rw [HO.out]; exact decide_eq_true (by omega)⟩, rfl⟩
      | false =>
        go_wp2_with fail
        go_roundg (n - (i + 1))
        case measure => rw [HGI.out.1]; omega
        case rel => exact ⟨i + 1, rfl, rfl, by omega, fun l' hl' => by
          rw [List.take_add_one, HX.out, Option.toList_some, List.mem_append, List.mem_singleton] at hl'
          rcases hl' with h1 | rfl
          · exact HGI.out.2 l' h1
          · rw [HP.out]; simpa using HR.out, rfl⟩
    · have hie : i = n := by omega
      subst hie
      have hinB : decide (i < i) = false := by simp
      have HO : Hid (oddState nf L = false) := Lib.hid (by
        have h1 := HGI.out.2
        rw [List.take_of_length_le (by rw [HN.out.1]; exact Nat.le_refl _)] at h1
        rw [oddState, List.any_eq_false]
        intro l hl
        simp [h1 l hl])
      go_wp2_with fail
      go_ret
      exact ⟨⟨-1, rfl, by rw [HO.out]; rfl⟩, rfl⟩

set_option maxRecDepth 100000 in
set_option maxHeartbeats 1000000 in
theorem contains1_calls (L : List (List Rl)) (a fa : Option Addr) (c nf fc b : Nat) (w : World) (h : Sts w a c L) (hl : (L.length : Int) ≤ 9223372036854775807) (hb : w.cell? ⟨b, 1, none⟩ = some (.slice fa nf fc)) :
    Calls Try.prog 68 #[.slice a L.length c, .func (.func 69) #[] #[.pointer (some ⟨b, 0, none⟩)]] w fun e w' => e = .returned (.bool (oddState nf L)) ∧ w' = w := by
  go_enter Try.func68, Try.ntmps68
  go_wp2_with fail
  refine (index1_calls L a fa c nf fc b w h hl hb).mono ?_
  rintro e w' ⟨⟨r, rfl, hr⟩, rfl⟩
  obtain ⟨O, hO⟩ : ∃ O, oddState nf L = O := ⟨_, rfl⟩
  rw [hO] at hr
  have HO := Lib.hid hO
  clear hO h hl hb
  cases O
  all_goals
    go_wp2_with fail
    go_ret
    exact ⟨by rw [HO.out]; rfl, rfl⟩
end Go.Proofs.Ytbddpjofhddilaa
