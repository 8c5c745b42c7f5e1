/- The reference lexer's token and its loop: the same plain function. -/
import Derived.Test.YtmcokfalkkjgmaaDoorJ
namespace Go.Proofs.YtmcokfalkkjgmaaDoor
open Go.RowKit

def OnePost (w : World) (s : ByteArray) (k : Nat) (e : Ending) (w' : World) : Prop :=
  e = .returned (.tuple #[.agg #[.int .i64 (tokKind s k : Nat), .string (s.extract k (tokEnd s k)), .int .i64 (k : Nat)], .bool (tokOk s k)]) ∧ w.grownBy w' none

theorem ret_tok {a : Value} {b b' : Bool} (h : b = b') : Ending.returned (.tuple #[a, .bool b]) = .returned (.tuple #[a, .bool b']) := by rw [h]
theorem own3 {w w1 : World} (h : w.grownBy w1 none) {a b c : Value} : w.grownBy (((w1.setCell ⟨w.heap.size, 0, none⟩ a).setCell ⟨w.heap.size, 1, none⟩ b).setCell ⟨w.heap.size, 2, none⟩ c) none :=
  grown_own h (((grown_set w1 w.heap.size 0 a).trans (grown_set _ w.heap.size 1 b)).trans (grown_set _ w.heap.size 2 c)) (by simp)
theorem grown_new' {w w1 : World} {o : Obj} (h : (w.alloc o).grownBy w1 none) : w.grownBy w1 none :=
  (World.grownBy_alloc w o none).trans h

set_option maxHeartbeats 1000000 in
theorem refOne_calls (s : ByteArray) (k : Nat) (w : World) (hs2 : s.size ≤ 20000) (hk : k < s.size) :
    Calls Tryd.prog 21 #[.string s, .int .i64 (k : Int)] w (OnePost w s k) := by
  have hs : s.size ≤ maxLen := by unfold maxLen; omega
  have HS := Lib.hid hs
  unfold maxLen at hs
  have hkI : (k : Int) < (s.size : Int) := by omega
  cases hl : isLetter (cur s k)
  · have HL := Lib.hid hl; clear hl
    cases hd : isDigit (cur s k)
    · have HD := Lib.hid hd; clear hd
      go_enter Tryd.func21, Tryd.ntmps21
      go_wp2_with fail
      rw [← cur_get hk]
      refine (refLetter_calls (cur s k) _).mono ?_
      rintro e w1 ⟨rfl, rfl⟩
      rw [HL.out]
      go_wp2_with fail
      rw [← cur_get hk]
      refine (refDigit_calls (cur s k) _).mono ?_
      rintro e w1 ⟨rfl, rfl⟩
      rw [HD.out]
      go_wp2_with fail
      refine (refSymbol_calls s k _ HS.out hk hs2).mono ?_
      rintro e w1 ⟨rfl, hg⟩
      have hB : w.heap.size < (w.alloc (.cells #[.int .i64 0, .string ByteArray.empty, .int .i64 0] 31)).heap.size := by simp
      have hb1 : w1.heap[w.heap.size]? = some (.cells #[.int .i64 0, .string ByteArray.empty, .int .i64 0] 31 (0, 0)) := (hg.block _ hB (by simp)).trans (heap_alloc_new w _)
      have hb2 : w.heap.size < w1.heap.size := (Array.getElem?_eq_some_iff.1 hb1).1
      have q0 : w1.cell? ⟨w.heap.size, 0, none⟩ = some (.int .i64 0) := by simp [World.cell?, hb1]
      have q1 : w1.cell? ⟨w.heap.size, 1, none⟩ = some (.string ByteArray.empty) := by simp [World.cell?, hb1]
      have q2 : w1.cell? ⟨w.heap.size, 2, none⟩ = some (.int .i64 0) := by simp [World.cell?, hb1]
      have f0 : w1.frozen? ⟨w.heap.size, 0, none⟩ = false := by simp [World.frozen?, hb1]
      have f1 : w1.frozen? ⟨w.heap.size, 1, none⟩ = false := by simp [World.frozen?, hb1]
      have f2 : w1.frozen? ⟨w.heap.size, 2, none⟩ = false := by simp [World.frozen?, hb1]
      have HG := Lib.hid (grown_new' hg)
      clear hg hb1 hB
      cases he : (bestTo s k 29).toList.isEmpty
      · have hb := best_sym s k
        have hne : (bestTo s k 29).size ≠ 0 := by
          intro h0
          rw [ByteArray.toList_eq] at he
          have : (bestTo s k 29).data = #[] := Array.eq_empty_of_size_eq_zero h0
          rw [this] at he; cases he
        have HB := Lib.hid (And.intro hb hne); clear hb hne
        go_wp2
        refine bodyPost_ret (v := .tuple #[.agg #[.int .i64 3, .string (bestTo s k 29), .int .i64 (k : Nat)], .bool true]) (by simp [results, Tryd.results21, go_sem, q0, q1, q2]) rfl ⟨?_, ?_⟩
        · obtain ⟨⟨b1, b2, b3⟩, hne⟩ := HB.out
          have hl := HL.out
          have hd := HD.out
          simp only [tokKind, tokEnd, tokOk, hl, hd, if_false, Bool.false_eq_true, ← b1]
          rw [show (symEnd s k).isSome = true from by
            cases hx : symEnd s k with
            | none => exact absurd (b2.2 hx) hne
            | some e => rfl]
          rfl
        · exact own3 HG.out
      · have hb := best_sym s k
        have hne : (bestTo s k 29).size = 0 := by
          rw [ByteArray.toList_eq] at he
          simp at he
          have : (bestTo s k 29).data = #[] := he
          show (bestTo s k 29).data.size = 0
          rw [this]; rfl
        have HB := Lib.hid (And.intro hb hne); clear hb hne
        go_wp2
        refine bodyPost_ret (v := .tuple #[.agg #[.int .i64 3, .string (bestTo s k 29), .int .i64 (k : Nat)], .bool false]) (by simp [results, Tryd.results21, go_sem, q0, q1, q2]) rfl ⟨?_, ?_⟩
        · obtain ⟨⟨b1, b2, b3⟩, hne⟩ := HB.out
          have hl := HL.out
          have hd := HD.out
          simp only [tokKind, tokEnd, tokOk, hl, hd, if_false, Bool.false_eq_true, ← b1]
          rw [b2.1 hne]
          rfl
        · exact own3 HG.out
    · have HD := Lib.hid hd; clear hd
      go_enter Tryd.func21, Tryd.ntmps21
      go_wp2_with fail
      rw [← cur_get hk]
      refine (refLetter_calls (cur s k) _).mono ?_
      rintro e w1 ⟨rfl, rfl⟩
      rw [HL.out]
      go_wp2_with fail
      rw [← cur_get hk]
      refine (refDigit_calls (cur s k) _).mono ?_
      rintro e w1 ⟨rfl, rfl⟩
      rw [HD.out]
      go_wp2
      go_loopg [6] (s.size - k) (fun g s6 wr => w.alloc (.cells #[.int .i64 0, .string ByteArray.empty, .int .i64 0] 31) = wr ∧ ∃ i : Nat, s6 = .int .i64 (i : Int) ∧ g = s.size - i ∧ k ≤ i ∧ i ≤ s.size ∧ digitEnd s i = digitEnd s k)
      case atStart => exact ⟨rfl, k, rfl, rfl, Nat.le_refl _, by omega, rfl⟩
      case round =>
        obtain ⟨rfl, i, rfl, hg, hki, hi, ha⟩ := hrel
        have HG := Lib.hid hg; clear hg
        have HA := Lib.hid ha; clear ha
        by_cases his : i < s.size
        · have hiI : decide ((i : Int) < (s.size : Int)) = true := by simp; omega
          have hiI2 : (i : Int) < (s.size : Int) := by omega
          have hkI3 : (k : Int) ≤ (i : Int) := by omega
          have hieq : (((i : Nat) : Int) == (s.size : Int)) = false := by simp; omega
          cases hw : isDigit (cur s i)
          · have hwe : digitEnd s i = i := adv_no (q := fun j => isDigit (cur s j)) hw
            have HW := Lib.hid (And.intro hw (hwe.symm.trans HA.out)); clear hw hwe
            go_wp2_with fail
            rw [← cur_get his]
            refine (refDigit_calls (cur s i) _).mono ?_
            rintro e w1 ⟨rfl, rfl⟩
            rw [HW.out.1]
            go_wp2_with (go_at_call 33; refine (refPart_calls _ _).mono ?_; rintro e w1 ⟨rfl, rfl⟩)
            · refine bodyPost_ret (v := .tuple #[.agg #[.int .i64 2, .string (s.extract k i), .int .i64 (k : Nat)], .bool (!isWord s[i].toNat)]) (by simp [results, Tryd.results21, go_sem]) rfl ⟨?_, World.grownBy_alloc _ _ _⟩
              have hl := HL.out
              have hd := HD.out
              have he : digitEnd s k = i := HW.out.2.symm
              have hgt := digitEnd_bd hk hd
              rw [he] at hgt
              simp only [tokKind, tokEnd, tokOk, hl, hd, if_true, if_false, Bool.false_eq_true, he]
              simp only [cur_get hk, cur_get his]
              refine ret_tok ?_
              generalize isWord s[i].toNat = B
              generalize s[k].toNat = c at *
              cases B <;> rw [Bool.eq_iff_iff] <;> simp <;> omega
            · refine bodyPost_ret (v := .tuple #[.agg #[.int .i64 2, .string (s.extract k i), .int .i64 (k : Nat)], .bool false]) (by simp [results, Tryd.results21, go_sem]) rfl ⟨?_, World.grownBy_alloc _ _ _⟩
              have hl := HL.out
              have hd := HD.out
              have he : digitEnd s k = i := HW.out.2.symm
              have hgt := digitEnd_bd hk hd
              rw [he] at hgt
              simp only [tokKind, tokEnd, tokOk, hl, hd, if_true, if_false, Bool.false_eq_true, he]
              simp only [cur_get hk, cur_get his]
              refine ret_tok ?_
              generalize isWord s[i].toNat = B
              generalize s[k].toNat = c at *
              cases B <;> rw [Bool.eq_iff_iff] <;> simp <;> omega
            · refine bodyPost_ret (v := .tuple #[.agg #[.int .i64 2, .string (s.extract k i), .int .i64 (k : Nat)], .bool (!isWord s[i].toNat)]) (by simp [results, Tryd.results21, go_sem]) rfl ⟨?_, World.grownBy_alloc _ _ _⟩
              have hl := HL.out
              have hd := HD.out
              have he : digitEnd s k = i := HW.out.2.symm
              have hgt := digitEnd_bd hk hd
              rw [he] at hgt
              simp only [tokKind, tokEnd, tokOk, hl, hd, if_true, if_false, Bool.false_eq_true, he]
              simp only [cur_get hk, cur_get his]
              refine ret_tok ?_
              generalize isWord s[i].toNat = B
              generalize s[k].toNat = c at *
              cases B <;> rw [Bool.eq_iff_iff] <;> simp <;> omega
            · refine bodyPost_ret (v := .tuple #[.agg #[.int .i64 2, .string (s.extract k i), .int .i64 (k : Nat)], .bool false]) (by simp [results, Tryd.results21, go_sem]) rfl ⟨?_, World.grownBy_alloc _ _ _⟩
              have hl := HL.out
              have hd := HD.out
              have he : digitEnd s k = i := HW.out.2.symm
              have hgt := digitEnd_bd hk hd
              rw [he] at hgt
              simp only [tokKind, tokEnd, tokOk, hl, hd, if_true, if_false, Bool.false_eq_true, he]
              simp only [cur_get hk, cur_get his]
              refine ret_tok ?_
              generalize isWord s[i].toNat = B
              generalize s[k].toNat = c at *
              cases B <;> rw [Bool.eq_iff_iff] <;> simp <;> omega
          · have hwe : digitEnd s i = digitEnd s (i + 1) := adv_yes (q := fun j => isDigit (cur s j)) his hw
            have HW := Lib.hid (And.intro hw (hwe.symm.trans HA.out)); clear hw hwe
            go_wp2_with fail
            rw [← cur_get his]
            refine (refDigit_calls (cur s i) _).mono ?_
            rintro e w1 ⟨rfl, rfl⟩
            rw [HW.out.1]
            go_wp2
            go_roundg (s.size - (i + 1))
            case measure => rw [HG.out]; omega
            case rel => exact ⟨rfl, i + 1, rfl, rfl, by omega, by omega, HW.out.2⟩
        · have hiI : decide ((i : Int) < (s.size : Int)) = false := by simp; omega
          have hieq : (((i : Nat) : Int) == (s.size : Int)) = true := by simp; omega
          have hwe : digitEnd s i = i := by
            have := adv_ge (fun j => isDigit (cur s j)) (s.size - i) i
            unfold digitEnd; omega
          have HW := Lib.hid (And.intro True.intro (hwe.symm.trans HA.out)); clear hwe
          have hb0 : isWord (cur s i) = false := by rw [show cur s i = 0 by simp [cur, his]]; rfl
          have hkI3 : (k : Int) ≤ (i : Int) := by omega
          have hiI2 : (i : Int) ≤ (s.size : Int) := by omega
          go_wp2
          · refine bodyPost_ret (v := .tuple #[.agg #[.int .i64 2, .string (s.extract k i), .int .i64 (k : Nat)], .bool true]) (by simp [results, Tryd.results21, go_sem]) rfl ⟨?_, World.grownBy_alloc _ _ _⟩
            have hl := HL.out
            have hd := HD.out
            have he : digitEnd s k = i := HW.out.2.symm
            have hgt := digitEnd_bd hk hd
            rw [he] at hgt
            simp only [tokKind, tokEnd, tokOk, hl, hd, if_true, if_false, Bool.false_eq_true, he, hb0]
            simp only [cur_get hk]
            refine ret_tok ?_
            generalize s[k].toNat = c at *
            rw [Bool.eq_iff_iff]; simp; omega
          · refine bodyPost_ret (v := .tuple #[.agg #[.int .i64 2, .string (s.extract k i), .int .i64 (k : Nat)], .bool false]) (by simp [results, Tryd.results21, go_sem]) rfl ⟨?_, World.grownBy_alloc _ _ _⟩
            have hl := HL.out
            have hd := HD.out
            have he : digitEnd s k = i := HW.out.2.symm
            have hgt := digitEnd_bd hk hd
            rw [he] at hgt
            simp only [tokKind, tokEnd, tokOk, hl, hd, if_true, if_false, Bool.false_eq_true, he, hb0]
            simp only [cur_get hk]
            refine ret_tok ?_
            generalize s[k].toNat = c at *
            rw [Bool.eq_iff_iff]; simp; omega
          · refine bodyPost_ret (v := .tuple #[.agg #[.int .i64 2, .string (s.extract k i), .int .i64 (k : Nat)], .bool true]) (by simp [results, Tryd.results21, go_sem]) rfl ⟨?_, World.grownBy_alloc _ _ _⟩
            have hl := HL.out
            have hd := HD.out
            have he : digitEnd s k = i := HW.out.2.symm
            have hgt := digitEnd_bd hk hd
            rw [he] at hgt
            simp only [tokKind, tokEnd, tokOk, hl, hd, if_true, if_false, Bool.false_eq_true, he, hb0]
            simp only [cur_get hk]
            refine ret_tok ?_
            generalize s[k].toNat = c at *
            rw [Bool.eq_iff_iff]; simp; omega
          · refine bodyPost_ret (v := .tuple #[.agg #[.int .i64 2, .string (s.extract k i), .int .i64 (k : Nat)], .bool false]) (by simp [results, Tryd.results21, go_sem]) rfl ⟨?_, World.grownBy_alloc _ _ _⟩
            have hl := HL.out
            have hd := HD.out
            have he : digitEnd s k = i := HW.out.2.symm
            have hgt := digitEnd_bd hk hd
            rw [he] at hgt
            simp only [tokKind, tokEnd, tokOk, hl, hd, if_true, if_false, Bool.false_eq_true, he, hb0]
            simp only [cur_get hk]
            refine ret_tok ?_
            generalize s[k].toNat = c at *
            rw [Bool.eq_iff_iff]; simp; omega
  · have HL := Lib.hid hl; clear hl
    go_enter Tryd.func21, Tryd.ntmps21
    go_wp2_with fail
    rw [← cur_get hk]
    refine (refLetter_calls (cur s k) _).mono ?_
    rintro e w1 ⟨rfl, rfl⟩
    rw [HL.out]
    go_wp2
    go_loopg [6] (s.size - k) (fun g s6 wr => w.alloc (.cells #[.int .i64 0, .string ByteArray.empty, .int .i64 0] 31) = wr ∧ ∃ i : Nat, s6 = .int .i64 (i : Int) ∧ g = s.size - i ∧ k ≤ i ∧ i ≤ s.size ∧ wordEnd s i = wordEnd s k)
    case atStart => exact ⟨rfl, k, rfl, rfl, Nat.le_refl _, by omega, rfl⟩
    case round =>
      obtain ⟨rfl, i, rfl, hg, hki, hi, ha⟩ := hrel
      have HG := Lib.hid hg; clear hg
      have HA := Lib.hid ha; clear ha
      by_cases his : i < s.size
      · have hiI : decide ((i : Int) < (s.size : Int)) = true := by simp; omega
        have hiI2 : (i : Int) < (s.size : Int) := by omega
        have hkI3 : (k : Int) ≤ (i : Int) := by omega
        cases hw : isWord (cur s i)
        · have hwe : wordEnd s i = i := adv_no (q := fun j => isWord (cur s j)) hw
          have HW := Lib.hid (And.intro hw (hwe.symm.trans HA.out)); clear hw hwe
          go_wp2_with fail
          rw [← cur_get his]
          refine (refPart_calls (cur s i) _).mono ?_
          rintro e w1 ⟨rfl, rfl⟩
          rw [HW.out.1]
          go_wp2
          refine bodyPost_ret (v := .tuple #[.agg #[.int .i64 1, .string (s.extract k i), .int .i64 (k : Nat)], .bool (decide ((i : Int) - (k : Int) ≤ 16))]) (by simp [results, Tryd.results21, go_sem]) rfl ⟨?_, ?_⟩
          · have hl := HL.out
            have he : wordEnd s k = i := HW.out.2.symm
            simp only [tokKind, tokEnd, tokOk, hl, if_true, he]
            exact ret_tok (by rw [Bool.eq_iff_iff]; simp; omega)
          · exact World.grownBy_alloc _ _ _
        · have hwe : wordEnd s i = wordEnd s (i + 1) := adv_yes (q := fun j => isWord (cur s j)) his hw
          have HW := Lib.hid (And.intro hw (hwe.symm.trans HA.out)); clear hw hwe
          go_wp2_with fail
          rw [← cur_get his]
          refine (refPart_calls (cur s i) _).mono ?_
          rintro e w1 ⟨rfl, rfl⟩
          rw [HW.out.1]
          go_wp2
          go_roundg (s.size - (i + 1))
          case measure => rw [HG.out]; omega
          case rel => exact ⟨rfl, i + 1, rfl, rfl, by omega, by omega, HW.out.2⟩
      · have hiI : decide ((i : Int) < (s.size : Int)) = false := by simp; omega
        have hwe : wordEnd s i = i := by
          have := adv_ge (fun j => isWord (cur s j)) (s.size - i) i
          unfold wordEnd; omega
        have HW := Lib.hid (And.intro True.intro (hwe.symm.trans HA.out)); clear hwe
        have hkI3 : (k : Int) ≤ (i : Int) := by omega
        have hiI2 : (i : Int) ≤ (s.size : Int) := by omega
        go_wp2
        refine bodyPost_ret (v := .tuple #[.agg #[.int .i64 1, .string (s.extract k i), .int .i64 (k : Nat)], .bool (decide ((i : Int) - (k : Int) ≤ 16))]) (by simp [results, Tryd.results21, go_sem]) rfl ⟨?_, ?_⟩
        · have hl := HL.out
          have he : wordEnd s k = i := HW.out.2.symm
          simp only [tokKind, tokEnd, tokOk, hl, if_true, he]
          exact ret_tok (by rw [Bool.eq_iff_iff]; simp; omega)
        · exact World.grownBy_alloc _ _ _
end Go.Proofs.YtmcokfalkkjgmaaDoor
