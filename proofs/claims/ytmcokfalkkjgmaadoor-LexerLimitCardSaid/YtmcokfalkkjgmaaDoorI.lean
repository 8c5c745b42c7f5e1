/- The reference lexer's small functions, and its gap between tokens. -/
import Derived.Test.YtmcokfalkkjgmaaDoorH
namespace Go.Proofs.YtmcokfalkkjgmaaDoor
open Go.RowKit

set_option maxHeartbeats 400000 in
theorem refSpace_calls (c : Nat) (w : World) : Calls Tryd.prog 31 #[.int .u8 (c : Int)] w fun e w' => e = .returned (.bool (isSpace c)) ∧ w = w' := by
  go_enter Tryd.func31, Tryd.ntmps31
  go_wp2
  all_goals
    go_ret
    refine ⟨ret_bool ?_, rfl⟩
    rw [Bool.eq_iff_iff]; simp [isSpace]; try omega

set_option maxHeartbeats 400000 in
theorem refLetter_calls (c : Nat) (w : World) : Calls Tryd.prog 32 #[.int .u8 (c : Int)] w fun e w' => e = .returned (.bool (isLetter c)) ∧ w = w' := by
  go_enter Tryd.func32, Tryd.ntmps32
  go_wp2
  all_goals
    go_ret
    refine ⟨ret_bool ?_, rfl⟩
    rw [Bool.eq_iff_iff]; simp [isLetter]; try omega

set_option maxHeartbeats 400000 in
theorem refDigit_calls (c : Nat) (w : World) : Calls Tryd.prog 34 #[.int .u8 (c : Int)] w fun e w' => e = .returned (.bool (isDigit c)) ∧ w = w' := by
  go_enter Tryd.func34, Tryd.ntmps34
  go_wp2
  all_goals
    go_ret
    refine ⟨ret_bool ?_, rfl⟩
    rw [Bool.eq_iff_iff]; simp [isDigit]; try omega

set_option maxHeartbeats 400000 in
theorem refPart_calls (c : Nat) (w : World) : Calls Tryd.prog 33 #[.int .u8 (c : Int)] w fun e w' => e = .returned (.bool (isWord c)) ∧ w = w' := by
  cases h1 : isLetter c
  · cases h2 : isDigit c
    · have H1 := Lib.hid h1; clear h1
      have H2 := Lib.hid h2; clear h2
      go_enter Tryd.func33, Tryd.ntmps33
      go_wp2_with fail
      refine (refLetter_calls c w).mono ?_
      rintro e w1 ⟨rfl, rfl⟩
      rw [H1.out]
      go_wp2_with fail
      refine (refDigit_calls c w).mono ?_
      rintro e w1 ⟨rfl, rfl⟩
      rw [H2.out]
      go_wp2
      all_goals
        go_ret
        refine ⟨ret_bool ?_, rfl⟩
        have h1 := H1.out
        have h2 := H2.out
        rw [Bool.eq_iff_iff]; simp [isWord, h1, h2]; try omega
    · have H1 := Lib.hid h1; clear h1
      have H2 := Lib.hid h2; clear h2
      go_enter Tryd.func33, Tryd.ntmps33
      go_wp2_with fail
      refine (refLetter_calls c w).mono ?_
      rintro e w1 ⟨rfl, rfl⟩
      rw [H1.out]
      go_wp2_with fail
      refine (refDigit_calls c w).mono ?_
      rintro e w1 ⟨rfl, rfl⟩
      rw [H2.out]
      go_wp2
      go_ret
      exact ⟨ret_bool (by have h2 := H2.out; simp [isWord, h2]), rfl⟩
  · have H1 := Lib.hid h1; clear h1
    go_enter Tryd.func33, Tryd.ntmps33
    go_wp2_with fail
    refine (refLetter_calls c w).mono ?_
    rintro e w1 ⟨rfl, rfl⟩
    rw [H1.out]
    go_wp2
    go_ret
    exact ⟨ret_bool (by have h1 := H1.out; simp [isWord, h1]), rfl⟩

set_option maxHeartbeats 400000 in
theorem refComment_calls (s : ByteArray) (k : Nat) (w : World) (hs : s.size ≤ maxLen) (hk : k < s.size) : Calls Tryd.prog 22 #[.string s, .int .i64 (k : Int)] w fun e w' => e = .returned (.bool (onCom s k)) ∧ w = w' := by
  unfold maxLen at hs
  have hkI : (k : Int) < (s.size : Int) := by omega
  by_cases h1 : k + 1 < s.size
  · have h1I : (k : Int) + 1 < (s.size : Int) := by omega
    have hto : ((k : Int) + 1).toNat = k + 1 := by omega
    go_enter Tryd.func22, Tryd.ntmps22
    go_wp2
    all_goals
      go_ret
      refine ⟨ret_bool ?_, rfl⟩
      simp only [onCom, cur_get hk, cur_get h1]
      rw [Bool.eq_iff_iff]; simp; omega
  · have h1B : decide ((k : Int) + 1 < (s.size : Int)) = false := by simp; omega
    go_enter Tryd.func22, Tryd.ntmps22
    go_wp2
    go_ret
    refine ⟨ret_bool ?_, rfl⟩
    have : cur s (k + 1) = 0 := by simp [cur, h1]
    simp [onCom, this]

theorem ret_int {k : IntKind} {a b : Int} (h : a = b) : Ending.returned (.int k a) = .returned (.int k b) := by rw [h]

theorem skipEnd_space {s : ByteArray} {k : Nat} (hk : k < s.size) (h : isSpace (cur s k) = true) : skipEnd s k = skipEnd s (k + 1) := by
  have e : spaceEnd s k = spaceEnd s (k + 1) := adv_yes (q := fun j => isSpace (cur s j)) hk h
  cases hc : onCom s (spaceEnd s k)
  · rw [skipEnd_no (by omega) hc, skipEnd_no (by omega) (by rw [← e]; exact hc), e]
  · rw [skipEnd_com (by omega) hc, skipEnd_com (k := k + 1) (by omega) (by rw [← e]; exact hc), e]
theorem spaceEnd_no {s : ByteArray} {k : Nat} (h : isSpace (cur s k) = false) : spaceEnd s k = k := adv_no (q := fun j => isSpace (cur s j)) h
theorem skipEnd_line {s : ByteArray} {k : Nat} (hk : k < s.size) (h : isSpace (cur s k) = false) (hc : onCom s k = true) : skipEnd s k = skipEnd s (lineEnd s k) := by
  have e := spaceEnd_no h
  rw [skipEnd_com (by omega) (by rw [e]; exact hc), e]
theorem skipEnd_stop {s : ByteArray} {k : Nat} (hk : k ≤ s.size) (h : isSpace (cur s k) = false) (hc : onCom s k = false) : skipEnd s k = k := by
  have e := spaceEnd_no h
  rw [skipEnd_no hk (by rw [e]; exact hc), e]
theorem skipEnd_end (s : ByteArray) : skipEnd s s.size = s.size := by
  have := skipEnd_bd (Nat.le_refl s.size); omega

set_option maxHeartbeats 1000000 in
theorem refGap_calls (s : ByteArray) (k : Nat) (w : World) (hs : s.size ≤ maxLen) (hk : k ≤ s.size) : Calls Tryd.prog 20 #[.string s, .int .i64 (k : Int)] w fun e w' => e = .returned (.int .i64 (skipEnd s k : Nat)) ∧ w = w' := by
  have HS := Lib.hid hs
  unfold maxLen at hs
  go_enter Tryd.func20, Tryd.ntmps20
  go_wp2
  go_loopg [1] (s.size - k) (fun g s1 wr => w = wr ∧ ∃ j : Nat, s1 = .int .i64 (j : Int) ∧ g = s.size - j ∧ j ≤ s.size ∧ skipEnd s j = skipEnd s k)
  case atStart => exact ⟨rfl, k, rfl, rfl, hk, rfl⟩
  case round =>
    obtain ⟨rfl, j, rfl, hg, hj, ha⟩ := hrel
    have HG := Lib.hid hg; clear hg
    have HA := Lib.hid ha; clear ha
    by_cases hjs : j < s.size
    · have hjI : decide ((j : Int) < (s.size : Int)) = true := by simp; omega
      have hjI2 : (j : Int) < (s.size : Int) := by omega
      cases h1 : isSpace (cur s j)
      · cases h2 : onCom s j
        · have H1 := Lib.hid h1; clear h1
          have H2 := Lib.hid h2; clear h2
          go_wp2_with fail
          rw [← cur_get hjs]
          refine (refSpace_calls (cur s j) w).mono ?_
          rintro e w1 ⟨rfl, rfl⟩
          rw [H1.out]
          go_wp2_with fail
          refine (refComment_calls s j w HS.out hjs).mono ?_
          rintro e w1 ⟨rfl, rfl⟩
          rw [H2.out]
          go_wp2
          go_ret
          exact ⟨ret_int (by rw [← HA.out, skipEnd_stop hj H1.out H2.out]), rfl⟩
        · have hgt := lineEnd_com h2
          have H1 := Lib.hid h1; clear h1
          have H2 := Lib.hid h2; clear h2
          go_wp2_with fail
          rw [← cur_get hjs]
          refine (refSpace_calls (cur s j) w).mono ?_
          rintro e w1 ⟨rfl, rfl⟩
          rw [H1.out]
          go_wp2_with fail
          refine (refComment_calls s j w HS.out hjs).mono ?_
          rintro e w1 ⟨rfl, rfl⟩
          rw [H2.out]
          go_wp2_with fail
          rw [← cur_get hjs]
          refine (refSpace_calls (cur s j) w).mono ?_
          rintro e w1 ⟨rfl, rfl⟩
          rw [H1.out]
          go_wp2
          go_loopg [1] (s.size - j) (fun g s1 wr => w = wr ∧ ∃ i : Nat, s1 = .int .i64 (i : Int) ∧ g = s.size - i ∧ i ≤ s.size ∧ lineEnd s i = lineEnd s j)
          case atStart => exact ⟨rfl, j, rfl, rfl, hj, rfl⟩
          case round =>
            obtain ⟨rfl, i, rfl, hgi, hi, hai⟩ := hrel
            have HGI := Lib.hid hgi; clear hgi
            have HAI := Lib.hid hai; clear hai
            by_cases his : i < s.size
            · have hiI : decide ((i : Int) < (s.size : Int)) = true := by simp; omega
              have hiI2 : (i : Int) < (s.size : Int) := by omega
              by_cases h10 : cur s i = 10
              · have e10 : (((s[i].toNat : Nat) : Int) != 10) = false := by rw [← cur_get his, h10]; rfl
                have H10 := Lib.hid h10; clear h10
                have hle : lineEnd s i = i := adv_no (q := fun j => inLine s j) (by simp [inLine, H10.out])
                have HLE := Lib.hid (hle.symm.trans HAI.out); clear hle
                go_wp2
                go_roundg (s.size - i)
                case measure => rw [HG.out]; have := HLE.out; omega
                case rel => exact ⟨rfl, i, rfl, rfl, hi, by rw [HLE.out, ← skipEnd_line hjs H1.out H2.out]; exact HA.out⟩
              · have e10 : (((s[i].toNat : Nat) : Int) != 10) = true := by rw [← cur_get his]; simp; omega
                have hle : lineEnd s i = lineEnd s (i + 1) := adv_yes (q := fun j => inLine s j) his (by simp [inLine, his, h10])
                have HLE := Lib.hid (hle.symm.trans HAI.out); clear hle h10
                go_wp2
                go_roundg (s.size - (i + 1))
                case measure => rw [HGI.out]; omega
                case rel => exact ⟨rfl, i + 1, rfl, rfl, by omega, HLE.out⟩
            · have hiI : decide ((i : Int) < (s.size : Int)) = false := by simp; omega
              have ei : i = s.size := by omega
              have hle : lineEnd s i = i := by have := lineEnd_bd hi; omega
              have HLE := Lib.hid (hle.symm.trans HAI.out); clear hle ei
              go_wp2
              go_roundg (s.size - i)
              case measure => rw [HG.out]; have := HLE.out; omega
              case rel => exact ⟨rfl, i, rfl, rfl, hi, by rw [HLE.out, ← skipEnd_line hjs H1.out H2.out]; exact HA.out⟩
      · have H1 := Lib.hid h1; clear h1
        go_wp2_with fail
        rw [← cur_get hjs]
        refine (refSpace_calls (cur s j) w).mono ?_
        rintro e w1 ⟨rfl, rfl⟩
        rw [H1.out]
        go_wp2_with fail
        rw [← cur_get hjs]
        refine (refSpace_calls (cur s j) w).mono ?_
        rintro e w1 ⟨rfl, rfl⟩
        rw [H1.out]
        go_wp2
        go_roundg (s.size - (j + 1))
        case measure => rw [HG.out]; omega
        case rel => exact ⟨rfl, j + 1, rfl, rfl, by omega, by rw [← skipEnd_space hjs H1.out]; exact HA.out⟩
    · have hjI : decide ((j : Int) < (s.size : Int)) = false := by simp; omega
      go_wp2
      go_ret
      have e : j = s.size := by omega
      exact ⟨ret_int (by rw [← HA.out, e, skipEnd_end]), rfl⟩
end Go.Proofs.YtmcokfalkkjgmaaDoor
