/- The scanner's methods that only read: what each call answers, for a scanner that lies in memory with its text and its place. -/
import Derived.Test.YtmcokfalkkjgmaaDoorProg
import Derived.WalkKit
import Derived.WalkSpells
import Derived.WalkLawsBesides
import Derived.Deep.QuietTactic
import Derived.BigQuiet
import Derived.Lib.Hide
import Derived.IntWalk
namespace Go.Proofs.YtmcokfalkkjgmaaDoor
open Go.RowKit

/-- The scanner in block b: its text s and its place k. -/
structure Scan (w : World) (b : Nat) (s : ByteArray) (k : Nat) : Prop where
  c0 : w.cell? ⟨b, 0, none⟩ = some (.string s)
  c1 : w.cell? ⟨b, 1, none⟩ = some (.int .i64 (k : Int))
  fr : w.frozen? ⟨b, 1, none⟩ = false

/-- The byte at k, or 0 behind the end. -/
def cur (s : ByteArray) (k : Nat) : Nat := if h : k < s.size then s[k].toNat else 0

def isSpace (c : Nat) : Bool := c == 32 || c == 9 || c == 10 || c == 13
def isDigit (c : Nat) : Bool := decide (48 ≤ c) && decide (c ≤ 57)
def isLetter (c : Nat) : Bool := (decide (97 ≤ c) && decide (c ≤ 122)) || (decide (65 ≤ c) && decide (c ≤ 90))
def isWord (c : Nat) : Bool := isLetter c || isDigit c || c == 95

set_option maxHeartbeats 400000 in
theorem current_calls (b k : Nat) (s : ByteArray) (w : World) (_hs : s.size ≤ maxLen) (h : Scan w b s k) :
    Calls Tryd.prog 36 #[.pointer (some ⟨b, 0, none⟩)] w fun e w' => e = .returned (.int .u8 (cur s k : Nat)) ∧ ∃ n, w' = w.drewN n := by
  obtain ⟨c0, c1, _⟩ := h
  unfold maxLen at _hs
  by_cases hk : k < s.size
  · have hlt : (k : Int) < (s.size : Int) := by omega
    go_enter Tryd.func36, Tryd.ntmps36
    go_wp2
    go_quiet (fail)
    go_wp2
    go_quiet (fail)
    go_wp2
    go_ret
    exact ⟨by simp [cur, hk], _, by rw [World.drewN_drewN]⟩
  · go_enter Tryd.func36, Tryd.ntmps36
    go_wp2
    go_quiet (fail)
    go_wp2
    go_ret
    exact ⟨by simp [cur, hk], _, rfl⟩

theorem ret_bool {a b : Bool} (h : a = b) : Ending.returned (.bool a) = .returned (.bool b) := by rw [h]

set_option maxHeartbeats 400000 in
theorem onSpace_calls (b k : Nat) (s : ByteArray) (w : World) (hs : s.size ≤ maxLen) (h : Scan w b s k) :
    Calls Tryd.prog 24 #[.pointer (some ⟨b, 0, none⟩)] w fun e w' => e = .returned (.bool (isSpace (cur s k))) ∧ ∃ n, w' = w.drewN n := by
  go_enter Tryd.func24, Tryd.ntmps24
  go_wp2_with fail
  refine (current_calls b k s _ hs h).mono ?_
  rintro e w1 ⟨rfl, n1, rfl⟩

  go_wp2
  all_goals
    go_ret
    refine ⟨ret_bool ?_, _, rfl⟩
    generalize cur s k = c at *; rw [Bool.eq_iff_iff]; simp [isSpace]; try omega

set_option maxHeartbeats 400000 in
theorem onLetter_calls (b k : Nat) (s : ByteArray) (w : World) (hs : s.size ≤ maxLen) (h : Scan w b s k) :
    Calls Tryd.prog 27 #[.pointer (some ⟨b, 0, none⟩)] w fun e w' => e = .returned (.bool (isLetter (cur s k))) ∧ ∃ n, w' = w.drewN n := by
  go_enter Tryd.func27, Tryd.ntmps27
  go_wp2_with fail
  refine (current_calls b k s _ hs h).mono ?_
  rintro e w1 ⟨rfl, n1, rfl⟩

  go_wp2
  all_goals
    go_ret
    refine ⟨ret_bool ?_, _, rfl⟩
    generalize cur s k = c at *; rw [Bool.eq_iff_iff]; simp [isLetter]; try omega

set_option maxHeartbeats 400000 in
theorem onDigit_calls (b k : Nat) (s : ByteArray) (w : World) (hs : s.size ≤ maxLen) (h : Scan w b s k) :
    Calls Tryd.prog 29 #[.pointer (some ⟨b, 0, none⟩)] w fun e w' => e = .returned (.bool (isDigit (cur s k))) ∧ ∃ n, w' = w.drewN n := by
  go_enter Tryd.func29, Tryd.ntmps29
  go_wp2_with fail
  refine (current_calls b k s _ hs h).mono ?_
  rintro e w1 ⟨rfl, n1, rfl⟩

  go_wp2
  all_goals
    go_ret
    refine ⟨ret_bool ?_, _, rfl⟩
    generalize cur s k = c at *; rw [Bool.eq_iff_iff]; simp [isDigit]; try omega

set_option maxHeartbeats 400000 in
theorem onWord_calls (b k : Nat) (s : ByteArray) (w : World) (hs : s.size ≤ maxLen) (h : Scan w b s k) :
    Calls Tryd.prog 28 #[.pointer (some ⟨b, 0, none⟩)] w fun e w' => e = .returned (.bool (isWord (cur s k))) ∧ ∃ n, w' = w.drewN n := by
  have hd : ∀ n, Scan (w.drewN n) b s k := fun n => ⟨h.c0, h.c1, h.fr⟩
  go_enter Tryd.func28, Tryd.ntmps28
  go_wp2_with fail
  refine (onLetter_calls b k s _ hs h).mono ?_
  rintro e w1 ⟨rfl, n1, rfl⟩
  cases h1 : isLetter (cur s k)
  · have H1 := Lib.hid h1; clear h1
    go_wp2_with fail
    refine (onDigit_calls b k s _ hs (hd _)).mono ?_
    rintro e w1 ⟨rfl, n2, rfl⟩
    cases h2 : isDigit (cur s k)
    · have H2 := Lib.hid h2; clear h2
      go_wp2_with fail
      refine (current_calls b k s _ hs (hd _)).mono ?_
      rintro e w1 ⟨rfl, n3, rfl⟩
      go_wp2
      all_goals
        go_ret
        refine ⟨ret_bool ?_, _, rfl⟩
        have h1 := H1.out
        have h2 := H2.out
        rw [Bool.eq_iff_iff]; simp [isWord, h1, h2]; try omega
    · have H2 := Lib.hid h2; clear h2
      go_wp2
      go_ret
      exact ⟨ret_bool (by have h2 := H2.out; simp [isWord, h2]), _, rfl⟩
  · have H1 := Lib.hid h1; clear h1
    go_wp2
    go_ret
    exact ⟨ret_bool (by have h1 := H1.out; simp [isWord, h1]), _, rfl⟩

/-- Does the line go on at k? -/
def inLine (s : ByteArray) (k : Nat) : Bool := decide (k < s.size) && cur s k != 10

set_option maxHeartbeats 400000 in
theorem insideLine_calls (b k : Nat) (s : ByteArray) (w : World) (_hs : s.size ≤ maxLen) (h : Scan w b s k) :
    Calls Tryd.prog 26 #[.pointer (some ⟨b, 0, none⟩)] w fun e w' => e = .returned (.bool (inLine s k)) ∧ ∃ n, w' = w.drewN n := by
  obtain ⟨c0, c1, _⟩ := h
  unfold maxLen at _hs
  by_cases hk : k < s.size
  · have hlt : (k : Int) < (s.size : Int) := by omega
    go_enter Tryd.func26, Tryd.ntmps26
    go_wp2
    go_quiet (fail)
    go_wp2
    all_goals
      go_ret
      exact ⟨ret_bool (by rw [Bool.eq_iff_iff]; simp [inLine, cur, hk]; try omega), _, rfl⟩
  · have hd : decide ((k : Int) < (s.size : Int)) = false := by simp; omega
    go_enter Tryd.func26, Tryd.ntmps26
    go_wp2
    go_quiet (fail)
    go_wp2
    go_ret
    exact ⟨ret_bool (by simp [inLine, hk]), _, rfl⟩

/-- Does a comment begin at k? -/
def onCom (s : ByteArray) (k : Nat) : Bool := cur s k == 47 && cur s (k + 1) == 47

theorem cur_pos {s : ByteArray} {k : Nat} (h : cur s k ≠ 0) : k < s.size := by
  unfold cur at h; split at h
  · assumption
  · simp at h

set_option maxHeartbeats 400000 in
theorem onComment_calls (b k : Nat) (s : ByteArray) (w : World) (hs : s.size ≤ maxLen) (h : Scan w b s k) :
    Calls Tryd.prog 25 #[.pointer (some ⟨b, 0, none⟩)] w fun e w' => e = .returned (.bool (onCom s k)) ∧ ∃ n, w' = w.drewN n := by
  have hcall := fun n => current_calls b k s (w.drewN n) hs ⟨h.c0, h.c1, h.fr⟩
  obtain ⟨c0, c1, _⟩ := h
  unfold maxLen at hs
  by_cases h47 : cur s k = 47
  · have hk : k < s.size := cur_pos (by omega)
    have e47 : (((cur s k : Nat) : Int) == 47) = true := by rw [h47]; rfl
    by_cases hk1 : k + 1 < s.size
    · have hlt : (k : Int) + 1 < (s.size : Int) := by omega
      have hto : ((k : Int) + 1).toNat = k + 1 := by omega
      have hnn : (0 : Int) ≤ (k : Int) + 1 := by omega
      have hwr : IntKind.i64.wrap ((k : Int) + 1) = (k : Int) + 1 := IntWalk.i64_in _ (by omega)
      have H47 := Lib.hid h47; clear h47
      go_enter Tryd.func25, Tryd.ntmps25
      go_wp2
      go_quiet ((go_at_call 36; exact Calls.quiet_of (hcall _)))
      go_wp2
      go_ret
      have h47 := H47.out
      have hc : cur s (k + 1) = s[k + 1].toNat := by simp [cur, hk1]
      exact ⟨ret_bool (by rw [onCom, h47, hc, Bool.eq_iff_iff]; simp; omega), _, rfl⟩
    · have hlt : decide ((k : Int) + 1 < (s.size : Int)) = false := by simp; omega
      have hwr : IntKind.i64.wrap ((k : Int) + 1) = (k : Int) + 1 := IntWalk.i64_in _ (by omega)
      have H47 := Lib.hid h47; clear h47
      go_enter Tryd.func25, Tryd.ntmps25
      go_wp2
      go_quiet ((go_at_call 36; exact Calls.quiet_of (hcall _)))
      go_wp2
      go_ret
      exact ⟨ret_bool (by simp [onCom, cur, hk1]), _, rfl⟩
  · have e47 : (((cur s k : Nat) : Int) == 47) = false := by simp; omega
    have H47 := Lib.hid h47; clear h47
    go_enter Tryd.func25, Tryd.ntmps25
    go_wp2
    go_quiet ((go_at_call 36; exact Calls.quiet_of (hcall _)))
    go_wp2
    go_ret
    have h47 := H47.out
    exact ⟨ret_bool (by simp [onCom, h47]), _, rfl⟩
end Go.Proofs.YtmcokfalkkjgmaaDoor
