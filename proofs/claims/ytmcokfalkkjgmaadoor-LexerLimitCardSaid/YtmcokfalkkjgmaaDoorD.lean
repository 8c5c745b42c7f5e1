/- One token: its kind, where it ends, whether it is valid. -/
import Derived.Test.YtmcokfalkkjgmaaDoorC
namespace Go.Proofs.YtmcokfalkkjgmaaDoor
open Go.RowKit

def wordEnd (s : ByteArray) (k : Nat) : Nat := adv (fun j => isWord (cur s j)) (s.size - k) k
def digitEnd (s : ByteArray) (k : Nat) : Nat := adv (fun j => isDigit (cur s j)) (s.size - k) k
def tokKind (s : ByteArray) (k : Nat) : Nat := if isLetter (cur s k) then 1 else if isDigit (cur s k) then 2 else 3
def tokEnd (s : ByteArray) (k : Nat) : Nat := if isLetter (cur s k) then wordEnd s k else if isDigit (cur s k) then digitEnd s k else (symEnd s k).getD k
def tokOk (s : ByteArray) (k : Nat) : Bool :=
  if isLetter (cur s k) then decide (wordEnd s k - k ≤ 16)
  else if isDigit (cur s k) then decide (digitEnd s k - k ≤ 9) && !(decide (1 < digitEnd s k - k) && cur s k == 48) && !isWord (cur s (digitEnd s k))
  else (symEnd s k).isSome

theorem ret_ib {a a' : Int} {b b' : Bool} (h : a = a') (h' : b = b') : Ending.returned (.tuple #[.int .i64 a, .bool b]) = .returned (.tuple #[.int .i64 a', .bool b']) := by rw [h, h']

def TokPost (w : World) (b : Nat) (s : ByteArray) (k : Nat) (e : Ending) (w' : World) : Prop :=
  e = .returned (.tuple #[.int .i64 (tokKind s k : Nat), .bool (tokOk s k)]) ∧ Scan w' b s (tokEnd s k) ∧ w.grownBy w' (some b)

set_option maxHeartbeats 1000000 in
theorem token_calls (b k : Nat) (s : ByteArray) (w : World) (hs : s.size ≤ maxLen) (hk : k < s.size) (h : Scan w b s k) (hb : b ≠ 0) (hy : SymsAt w) :
    Calls Tryd.prog 19 #[.pointer (some ⟨b, 0, none⟩)] w (TokPost w b s k) := by
  have HS := Lib.hid hs
  have HC := Lib.hid h
  have HW := Lib.hid hy; clear hy
  obtain ⟨c0, c1, c2⟩ := h
  unfold maxLen at hs
  cases hl : isLetter (cur s k)
  · have HL := Lib.hid hl; clear hl
    cases hd : isDigit (cur s k)
    · have HD := Lib.hid hd; clear hd
      go_enter Tryd.func19, Tryd.ntmps19
      go_wp2_with fail
      refine (onLetter_calls b k s _ HS.out HC.out).mono ?_
      rintro e w1 ⟨rfl, n1, rfl⟩
      rw [HL.out]
      go_wp2_with fail
      refine (onDigit_calls b k s _ HS.out (HC.out.drewN n1)).mono ?_
      rintro e w1 ⟨rfl, n2, rfl⟩
      rw [HD.out]
      go_wp2_with fail
      refine (symbol_end b k s _ HS.out (by omega) (HC.out.drewN (n1 + n2)) hb HW.out).mono ?_
      rintro e w1 ⟨rfl, hsc, hg⟩
      have HG := Lib.hid ((grown_drewN w (n1 + n2) (some b)).trans hg); clear hg
      have HC1 := Lib.hid hsc; clear hsc
      clear c0 c1 c2
      go_wp2
      go_ret2
      have hl := HL.out
      have hd := HD.out
      refine ⟨?_, ?_, HG.out⟩
      · simp [tokKind, tokOk, hl, hd]
      · simp only [tokEnd, hl, hd]
        exact HC1.out
    · have hbd := adv_ge (fun j => isDigit (cur s j)) (s.size - k) k
      have HD := Lib.hid hd; clear hd
      have hks : (k : Int) < (s.size : Int) := by omega
      go_enter Tryd.func19, Tryd.ntmps19
      go_wp2_with fail
      refine (onLetter_calls b k s _ HS.out HC.out).mono ?_
      rintro e w1 ⟨rfl, n1, rfl⟩
      rw [HL.out]
      go_wp2_with fail
      refine (onDigit_calls b k s _ HS.out (HC.out.drewN n1)).mono ?_
      rintro e w1 ⟨rfl, n2, rfl⟩
      rw [HD.out]
      go_wp2_with fail
      refine (while_digit b k s _ HS.out (by omega) (HC.out.drewN (n1 + n2))).mono ?_
      rintro e w1 ⟨rfl, hsc, hg⟩
      obtain ⟨m, hm⟩ : ∃ m, adv (fun j => isDigit (cur s j)) (s.size - k) k = m := ⟨_, rfl⟩
      rw [hm] at hsc hbd
      have HM := Lib.hid hm; clear hm
      have HG := Lib.hid ((grown_drewN w (n1 + n2) (some b)).trans hg); clear hg
      have HC1 := Lib.hid hsc
      clear c0 c1 c2
      obtain ⟨c0, c1, c2⟩ := hsc
      have hmk : (0 : Int) ≤ (m : Int) - (k : Int) := by omega
      go_wp2_with (go_at_call 28; refine (onWord_calls b m s _ HS.out HC1.out).mono ?_; rintro e w2 ⟨rfl, n3, rfl⟩)
      all_goals
        go_ret2
        have hl := HL.out
        have hd := HD.out
        have hm := HM.out
        refine ⟨?_, ?_, by first | exact HG.out | exact HG.out.trans (grown_drewN _ _ _)⟩
        · simp only [tokKind, tokOk, digitEnd, hl, hd, hm, if_true, Bool.false_eq_true, if_false]
          refine ret_ib rfl ?_
          rw [cur_get hk]
          generalize isWord (cur s m) = B
          generalize s[k].toNat = c at *
          cases B <;> rw [Bool.eq_iff_iff] <;> simp <;> omega
        · simp only [tokEnd, digitEnd, hl, hd, hm, if_true, Bool.false_eq_true, if_false]
          first | exact HC1.out | exact HC1.out.drewN _
  · have hbd := adv_ge (fun j => isWord (cur s j)) (s.size - k) k
    have HL := Lib.hid hl; clear hl
    go_enter Tryd.func19, Tryd.ntmps19
    go_wp2_with fail
    refine (onLetter_calls b k s _ HS.out HC.out).mono ?_
    rintro e w1 ⟨rfl, n1, rfl⟩
    rw [HL.out]
    go_wp2_with fail
    refine (while_word b k s _ HS.out (by omega) (HC.out.drewN n1)).mono ?_
    rintro e w1 ⟨rfl, hsc, hg⟩
    obtain ⟨m, hm⟩ : ∃ m, adv (fun j => isWord (cur s j)) (s.size - k) k = m := ⟨_, rfl⟩
    rw [hm] at hsc hbd
    have HM := Lib.hid hm; clear hm
    have HG := Lib.hid ((grown_drewN w n1 (some b)).trans hg); clear hg
    have HC1 := Lib.hid hsc
    clear c0 c1 c2
    obtain ⟨c0, c1, c2⟩ := hsc
    have hmk : (0 : Int) ≤ (m : Int) - (k : Int) := by omega
    go_wp2
    go_quiet (fail)
    go_wp2
    go_ret2
    have hl := HL.out
    have hm := HM.out
    refine ⟨?_, ?_, HG.out.trans (grown_drewN _ _ _)⟩
    · simp only [tokKind, tokOk, wordEnd, hl, hm, if_true]
      exact ret_ib rfl (by rw [Bool.eq_iff_iff]; simp; omega)
    · simp only [tokEnd, wordEnd, hl, hm, if_true]
      exact HC1.out.drewN _
end Go.Proofs.YtmcokfalkkjgmaaDoor
