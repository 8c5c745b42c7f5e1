/- The scanner's loop: it moves on while its condition holds. -/
import Derived.Test.YtmcokfalkkjgmaaDoorA
import Derived.Deep.LoopGhost
import Derived.Maps.AppendAt
namespace Go.Proofs.YtmcokfalkkjgmaaDoor
open Go.RowKit

/-- From k on while q holds, n steps at most. -/
def adv (q : Nat → Bool) : Nat → Nat → Nat
  | 0, k => k
  | n + 1, k => if q k then adv q n (k + 1) else k

theorem adv_yes {q : Nat → Bool} {n k : Nat} (hk : k < n) (h : q k = true) : adv q (n - k) k = adv q (n - (k + 1)) (k + 1) := by
  rw [show n - k = (n - (k + 1)) + 1 by omega]; simp [adv, h]
theorem adv_no {q : Nat → Bool} {n k : Nat} (h : q k = false) : adv q n k = k := by
  cases n <;> simp [adv, h]
theorem adv_ge (q : Nat → Bool) : ∀ n k, k ≤ adv q n k ∧ adv q n k ≤ k + n
  | 0, k => by simp [adv]
  | n + 1, k => by
    have := adv_ge q n (k + 1)
    simp only [adv]; split <;> omega

theorem grown_drewN (w : World) (n : Nat) (r : Option Nat) : w.grownBy (w.drewN n) r := ⟨rfl, rfl, rfl, Nat.le_refl _, fun _ _ _ => rfl⟩
theorem grown_set (w : World) (b o : Nat) (v : Value) : w.grownBy (w.setCell ⟨b, o, none⟩ v) (some b) :=
  ⟨rfl, rfl, rfl, by simp [World.setCell], fun k _ hk => Below.heap_setCell _ _ _ _ (fun e => hk (by rw [e]))⟩
theorem grown_refl (w : World) (r : Option Nat) : w.grownBy w r := ⟨rfl, rfl, rfl, Nat.le_refl _, fun _ _ _ => rfl⟩

theorem Scan.drewN {w : World} {b : Nat} {s : ByteArray} {k : Nat} (h : Scan w b s k) (n : Nat) : Scan (w.drewN n) b s k := ⟨h.c0, h.c1, h.fr⟩
theorem Scan.set {w : World} {b : Nat} {s : ByteArray} {k : Nat} (h : Scan w b s k) (j : Nat) (i : Int) (hi : i = j) : Scan (w.setCell ⟨b, 1, none⟩ (.int .i64 i)) b s j := by
  subst hi
  have h0 := h.c0; have h1 := h.c1; have h2 := h.fr
  exact ⟨by go_simp, by go_simp, by go_simp⟩

theorem isSpace_lt {s : ByteArray} {j : Nat} (h : isSpace (cur s j) = true) : j < s.size := cur_pos (by rintro e; rw [e] at h; simp [isSpace] at h)
theorem isDigit_lt {s : ByteArray} {j : Nat} (h : isDigit (cur s j) = true) : j < s.size := cur_pos (by rintro e; rw [e] at h; simp [isDigit] at h)
theorem isWord_lt {s : ByteArray} {j : Nat} (h : isWord (cur s j) = true) : j < s.size := cur_pos (by rintro e; rw [e] at h; simp [isWord, isLetter, isDigit] at h)
theorem inLine_lt {s : ByteArray} {j : Nat} (h : inLine s j = true) : j < s.size := by simp [inLine] at h; exact h.1

set_option maxHeartbeats 400000 in
theorem while_space (b k : Nat) (s : ByteArray) (w : World) (hs : s.size ≤ maxLen) (hk : k ≤ s.size) (h : Scan w b s k) :
    Calls Tryd.prog 23 #[.pointer (some ⟨b, 0, none⟩), .func (.func 24) #[.pointer (some ⟨b, 0, none⟩)] #[]] w fun e w' => e = .returned (.tuple #[]) ∧ Scan w' b s (adv (fun j => isSpace (cur s j)) (s.size - k) k) ∧ w.grownBy w' (some b) := by
  have HS := Lib.hid hs
  unfold maxLen at hs
  go_enter Tryd.func23, Tryd.ntmps23
  go_wp2
  go_loopg [] (s.size - k) (fun g wr => ∃ j, g = s.size - j ∧ j ≤ s.size ∧ Scan wr b s j ∧ adv (fun j => isSpace (cur s j)) (s.size - j) j = adv (fun j => isSpace (cur s j)) (s.size - k) k ∧ w.grownBy wr (some b))
  case atStart => exact ⟨k, rfl, hk, h, rfl, grown_refl _ _⟩
  case round =>
    obtain ⟨j, hg, hj, hsc, ha, hgr⟩ := hrel
    have HG := Lib.hid hg; clear hg
    have HA := Lib.hid ha; clear ha
    cases hq : ((fun j => isSpace (cur s j))) j
    · have HQ := Lib.hid hq; clear hq
      go_wp2_with fail
      refine (onSpace_calls b j s _ HS.out hsc).mono ?_
      rintro e w1 ⟨rfl, n1, rfl⟩
      have hf : isSpace (cur s j) = false := HQ.out
      rw [hf]
      clear hf
      go_wp2
      go_end0
      refine ⟨rfl, ?_, hgr.trans (grown_drewN _ _ _)⟩
      rw [← HA.out, adv_no (q := (fun j => isSpace (cur s j))) HQ.out]
      exact hsc.drewN _
    · have hjs : j < s.size := isSpace_lt hq
      have HQ := Lib.hid hq; clear hq
      go_wp2_with fail
      refine (onSpace_calls b j s _ HS.out hsc).mono ?_
      rintro e w1 ⟨rfl, n1, rfl⟩
      have hf : isSpace (cur s j) = true := HQ.out
      rw [hf]
      clear hf
      obtain ⟨c0, c1, fr⟩ := hsc.drewN n1
      go_wp2
      go_roundg (s.size - (j + 1))
      case measure => rw [HG.out]; omega
      case rel => exact ⟨j + 1, rfl, by omega, (Scan.mk c0 c1 fr).set _ _ (by omega), by rw [← adv_yes (q := (fun j => isSpace (cur s j))) hjs HQ.out]; exact HA.out, (hgr.trans (grown_drewN _ n1 _)).trans (grown_set _ _ _ _)⟩

set_option maxHeartbeats 400000 in
theorem while_line (b k : Nat) (s : ByteArray) (w : World) (hs : s.size ≤ maxLen) (hk : k ≤ s.size) (h : Scan w b s k) :
    Calls Tryd.prog 23 #[.pointer (some ⟨b, 0, none⟩), .func (.func 26) #[.pointer (some ⟨b, 0, none⟩)] #[]] w fun e w' => e = .returned (.tuple #[]) ∧ Scan w' b s (adv (fun j => inLine s j) (s.size - k) k) ∧ w.grownBy w' (some b) := by
  have HS := Lib.hid hs
  unfold maxLen at hs
  go_enter Tryd.func23, Tryd.ntmps23
  go_wp2
  go_loopg [] (s.size - k) (fun g wr => ∃ j, g = s.size - j ∧ j ≤ s.size ∧ Scan wr b s j ∧ adv (fun j => inLine s j) (s.size - j) j = adv (fun j => inLine s j) (s.size - k) k ∧ w.grownBy wr (some b))
  case atStart => exact ⟨k, rfl, hk, h, rfl, grown_refl _ _⟩
  case round =>
    obtain ⟨j, hg, hj, hsc, ha, hgr⟩ := hrel
    have HG := Lib.hid hg; clear hg
    have HA := Lib.hid ha; clear ha
    cases hq : ((fun j => inLine s j)) j
    · have HQ := Lib.hid hq; clear hq
      go_wp2_with fail
      refine (insideLine_calls b j s _ HS.out hsc).mono ?_
      rintro e w1 ⟨rfl, n1, rfl⟩
      have hf : inLine s j = false := HQ.out
      rw [hf]
      clear hf
      go_wp2
      go_end0
      refine ⟨rfl, ?_, hgr.trans (grown_drewN _ _ _)⟩
      rw [← HA.out, adv_no (q := (fun j => inLine s j)) HQ.out]
      exact hsc.drewN _
    · have hjs : j < s.size := inLine_lt hq
      have HQ := Lib.hid hq; clear hq
      go_wp2_with fail
      refine (insideLine_calls b j s _ HS.out hsc).mono ?_
      rintro e w1 ⟨rfl, n1, rfl⟩
      have hf : inLine s j = true := HQ.out
      rw [hf]
      clear hf
      obtain ⟨c0, c1, fr⟩ := hsc.drewN n1
      go_wp2
      go_roundg (s.size - (j + 1))
      case measure => rw [HG.out]; omega
      case rel => exact ⟨j + 1, rfl, by omega, (Scan.mk c0 c1 fr).set _ _ (by omega), by rw [← adv_yes (q := (fun j => inLine s j)) hjs HQ.out]; exact HA.out, (hgr.trans (grown_drewN _ n1 _)).trans (grown_set _ _ _ _)⟩

set_option maxHeartbeats 400000 in
theorem while_word (b k : Nat) (s : ByteArray) (w : World) (hs : s.size ≤ maxLen) (hk : k ≤ s.size) (h : Scan w b s k) :
    Calls Tryd.prog 23 #[.pointer (some ⟨b, 0, none⟩), .func (.func 28) #[.pointer (some ⟨b, 0, none⟩)] #[]] w fun e w' => e = .returned (.tuple #[]) ∧ Scan w' b s (adv (fun j => isWord (cur s j)) (s.size - k) k) ∧ w.grownBy w' (some b) := by
  have HS := Lib.hid hs
  unfold maxLen at hs
  go_enter Tryd.func23, Tryd.ntmps23
  go_wp2
  go_loopg [] (s.size - k) (fun g wr => ∃ j, g = s.size - j ∧ j ≤ s.size ∧ Scan wr b s j ∧ adv (fun j => isWord (cur s j)) (s.size - j) j = adv (fun j => isWord (cur s j)) (s.size - k) k ∧ w.grownBy wr (some b))
  case atStart => exact ⟨k, rfl, hk, h, rfl, grown_refl _ _⟩
  case round =>
    obtain ⟨j, hg, hj, hsc, ha, hgr⟩ := hrel
    have HG := Lib.hid hg; clear hg
    have HA := Lib.hid ha; clear ha
    cases hq : ((fun j => isWord (cur s j))) j
    · have HQ := Lib.hid hq; clear hq
      go_wp2_with fail
      refine (onWord_calls b j s _ HS.out hsc).mono ?_
      rintro e w1 ⟨rfl, n1, rfl⟩
      have hf : isWord (cur s j) = false := HQ.out
      rw [hf]
      clear hf
      go_wp2
      go_end0
      refine ⟨rfl, ?_, hgr.trans (grown_drewN _ _ _)⟩
      rw [← HA.out, adv_no (q := (fun j => isWord (cur s j))) HQ.out]
      exact hsc.drewN _
    · have hjs : j < s.size := isWord_lt hq
      have HQ := Lib.hid hq; clear hq
      go_wp2_with fail
      refine (onWord_calls b j s _ HS.out hsc).mono ?_
      rintro e w1 ⟨rfl, n1, rfl⟩
      have hf : isWord (cur s j) = true := HQ.out
      rw [hf]
      clear hf
      obtain ⟨c0, c1, fr⟩ := hsc.drewN n1
      go_wp2
      go_roundg (s.size - (j + 1))
      case measure => rw [HG.out]; omega
      case rel => exact ⟨j + 1, rfl, by omega, (Scan.mk c0 c1 fr).set _ _ (by omega), by rw [← adv_yes (q := (fun j => isWord (cur s j))) hjs HQ.out]; exact HA.out, (hgr.trans (grown_drewN _ n1 _)).trans (grown_set _ _ _ _)⟩

set_option maxHeartbeats 400000 in
theorem while_digit (b k : Nat) (s : ByteArray) (w : World) (hs : s.size ≤ maxLen) (hk : k ≤ s.size) (h : Scan w b s k) :
    Calls Tryd.prog 23 #[.pointer (some ⟨b, 0, none⟩), .func (.func 29) #[.pointer (some ⟨b, 0, none⟩)] #[]] w fun e w' => e = .returned (.tuple #[]) ∧ Scan w' b s (adv (fun j => isDigit (cur s j)) (s.size - k) k) ∧ w.grownBy w' (some b) := by
  have HS := Lib.hid hs
  unfold maxLen at hs
  go_enter Tryd.func23, Tryd.ntmps23
  go_wp2
  go_loopg [] (s.size - k) (fun g wr => ∃ j, g = s.size - j ∧ j ≤ s.size ∧ Scan wr b s j ∧ adv (fun j => isDigit (cur s j)) (s.size - j) j = adv (fun j => isDigit (cur s j)) (s.size - k) k ∧ w.grownBy wr (some b))
  case atStart => exact ⟨k, rfl, hk, h, rfl, grown_refl _ _⟩
  case round =>
    obtain ⟨j, hg, hj, hsc, ha, hgr⟩ := hrel
    have HG := Lib.hid hg; clear hg
    have HA := Lib.hid ha; clear ha
    cases hq : ((fun j => isDigit (cur s j))) j
    · have HQ := Lib.hid hq; clear hq
      go_wp2_with fail
      refine (onDigit_calls b j s _ HS.out hsc).mono ?_
      rintro e w1 ⟨rfl, n1, rfl⟩
      have hf : isDigit (cur s j) = false := HQ.out
      rw [hf]
      clear hf
      go_wp2
      go_end0
      refine ⟨rfl, ?_, hgr.trans (grown_drewN _ _ _)⟩
      rw [← HA.out, adv_no (q := (fun j => isDigit (cur s j))) HQ.out]
      exact hsc.drewN _
    · have hjs : j < s.size := isDigit_lt hq
      have HQ := Lib.hid hq; clear hq
      go_wp2_with fail
      refine (onDigit_calls b j s _ HS.out hsc).mono ?_
      rintro e w1 ⟨rfl, n1, rfl⟩
      have hf : isDigit (cur s j) = true := HQ.out
      rw [hf]
      clear hf
      obtain ⟨c0, c1, fr⟩ := hsc.drewN n1
      go_wp2
      go_roundg (s.size - (j + 1))
      case measure => rw [HG.out]; omega
      case rel => exact ⟨j + 1, rfl, by omega, (Scan.mk c0 c1 fr).set _ _ (by omega), by rw [← adv_yes (q := (fun j => isDigit (cur s j))) hjs HQ.out]; exact HA.out, (hgr.trans (grown_drewN _ n1 _)).trans (grown_set _ _ _ _)⟩

end Go.Proofs.YtmcokfalkkjgmaaDoor
