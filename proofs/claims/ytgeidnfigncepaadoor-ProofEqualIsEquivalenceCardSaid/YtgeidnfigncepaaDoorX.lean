/- The laws ProofPrefixes, ProofEqualIsEquivalence. -/
import Derived.Test.YtgeidnfigncepaaDoorW
namespace Go.Proofs.YtgeidnfigncepaaDoor
open Go.RowKit

theorem Arg.part {w : World} {a : Option Addr} {c n : Nat} {l m : List St} {a' : Option Addr} {c' : Nat} (h : Arg w a c n l) (hs : Steps w a' c' m) (hm : ∀ x ∈ m, x ∈ l) (hl : m.length ≤ l.length) : Arg w a' c' m.length m :=
  ⟨rfl, hs, by have := h.most; omega, fun x hx => h.lits x (hm x hx)⟩
theorem enc_part (l : List St) (k : Nat) : (enc (l.take k)).length ≤ (enc l).length ∧ (enc (l.drop k)).length ≤ (enc l).length := by
  have : (enc l).length = (enc (l.take k)).length + (enc (l.drop k)).length := by rw [← List.length_append, ← enc_append, List.take_append_drop]
  omega

set_option maxHeartbeats 4000000 in
theorem equalEquiv_calls (v : Nat) (hv : v < 65536) (l m : List St) (n n' : Nat) (a a' : Option Addr) (c c' : Nat) (w : World) (h : Arg w a c n l) (h' : Arg w a' c' n' m) (ht : Tab w) :
    Calls Tryd.prog 9 #[.int .u16 (v : Int), .slice a n c, .slice a' n' c'] w fun e w' => e = .returned (.bool true) ∧ w.grownBy w' none := by
  have HA := Lib.hid h; clear h
  have HB := Lib.hid h'; clear h'
  have HT := Lib.hid ht; clear ht
  go_enter Tryd.func9, Tryd.ntmps9
  go_wp2_with fail
  refine (head_says w HT.out).mono ?_
  rintro e w1 ⟨rfl, g1⟩
  have HG1 := Lib.hid g1; clear g1
  go_wp2_with fail
  refine (few_any (HA.out.go HG1.out) 100).mono ?_
  rintro e w2 ⟨rfl, g2⟩
  have HG2 := Lib.hid (HG1.out.trans g2); clear g2
  cases hf : fewB 100 l with
  | false =>
    clear hf
    go_wp2_with fail
    go_ret
    exact ⟨rfl, HG2.out⟩
  | true =>
    have HF := Lib.hid hf; clear hf
    go_wp2_with fail
    refine (few_any (HB.out.go HG2.out) 100).mono ?_
    rintro e w3 ⟨rfl, g3⟩
    have HG3 := Lib.hid (HG2.out.trans g3); clear g3
    cases hf : fewB 100 m with
    | false =>
      clear hf
      go_wp2_with fail
      go_ret
      exact ⟨rfl, HG3.out⟩
    | true =>
      have HF2 := Lib.hid hf; clear hf
      go_wp2_with fail
      refine (equal_any (HA.out.go HG3.out) (HB.out.go HG3.out)).mono ?_
      rintro e w4 ⟨rfl, g4⟩
      have HG4 := Lib.hid (HG3.out.trans g4); clear g4
      go_wp2_with fail
      refine (equal_any (HA.out.go HG4.out) (HA.out.go HG4.out)).mono ?_
      rintro e w5 ⟨rfl, g5⟩
      rw [decide_eq_true (rfl : l = l)]
      have HG5 := Lib.hid (HG4.out.trans g5); clear g5
      go_wp2_with fail
      refine (equal_any (HB.out.go HG5.out) (HA.out.go HG5.out)).mono ?_
      rintro e w6 ⟨rfl, g6⟩
      rw [show decide (m = l) = decide (l = m) from by rw [decide_eq_decide]; exact ⟨Eq.symm, Eq.symm⟩]
      have HG6 := Lib.hid (HG5.out.trans g6); clear g6
      obtain ⟨Q, hQ⟩ : ∃ Q, decide (l = m) = Q := ⟨_, rfl⟩
      rw [hQ]
      have HQ := Lib.hid hQ; clear hQ
      have hqq : (Q != Q) = false := by simp
      go_wp2_with fail
      refine (valid_any (HA.out.go HG6.out) (v : Int)).mono ?_
      rintro e w7 ⟨rfl, g7⟩
      have HG7 := Lib.hid (HG6.out.trans g7); clear g7
      cases hw : validB (v : Int) l with
      | false =>
        clear hw
        go_wp2_with fail
        go_ret
        exact ⟨rfl, HG7.out⟩
      | true =>
        have HGL := Lib.hid (validB_good hw); clear hw
        go_wp2_with fail
        refine (valid_any (HB.out.go HG7.out) (v : Int)).mono ?_
        rintro e w8 ⟨rfl, g8⟩
        have HG8 := Lib.hid (HG7.out.trans g8); clear g8
        cases hw : validB (v : Int) m with
        | false =>
          clear hw
          go_wp2_with fail
          go_ret
          exact ⟨rfl, HG8.out⟩
        | true =>
          have HGM := Lib.hid (validB_good hw); clear hw
          have HSL := Lib.hid (enc_small HF.out (by omega) HGL.out)
          have HSM := Lib.hid (enc_small HF2.out (by omega) HGM.out)
          go_wp2_with fail
          refine (encode_any (HA.out.go HG8.out) HGL.out (by have := HSL.out; omega) (HT.out.grown HG8.out)).mono ?_
          rintro e w9 ⟨rfl, g9⟩
          have HG9 := Lib.hid (HG8.out.trans g9); clear g9
          go_wp2_with fail
          refine (encode_any (HB.out.go HG9.out) HGM.out (by have := HSM.out; omega) (HT.out.grown HG9.out)).mono ?_
          rintro e w10 ⟨rfl, g10⟩
          have HG10 := Lib.hid (HG9.out.trans g10); clear g10
          by_cases hlm : l = m
          · have hQt : Q = true := by rw [← HQ.out]; exact decide_eq_true hlm
            subst hQt
            rw [hlm]
            obtain ⟨S, hS⟩ : ∃ S : ByteArray, ⟨(enc m).toArray⟩ = S := ⟨_, rfl⟩
            rw [hS]; clear hS hlm
            go_wp2_with fail
            go_ret
            exact ⟨rfl, HG10.out⟩
          · have hQf : Q = false := by rw [← HQ.out]; exact decide_eq_false hlm
            subst hQf
            have hne : (⟨(enc l).toArray⟩ : ByteArray) ≠ ⟨(enc m).toArray⟩ := by
              intro e
              have := congrArg (fun s : ByteArray => s.data.toList) e
              exact hlm (enc_inj HGL.out HGM.out this)
            obtain ⟨S, hS⟩ : ∃ S : ByteArray, ⟨(enc l).toArray⟩ = S := ⟨_, rfl⟩
            obtain ⟨S', hS'⟩ : ∃ S' : ByteArray, ⟨(enc m).toArray⟩ = S' := ⟨_, rfl⟩
            rw [hS, hS'] at hne
            rw [hS, hS']
            clear hS hS' hlm
            have hne2 : ¬ S.data = S'.data := fun e => hne (by cases S; cases S'; cases e; rfl)
            have hne3 : ¬ S.data.toList = S'.data.toList := fun e => hne2 (Array.toList_inj.1 e)
            have hne4 : ¬ S.toList = S'.toList := fun e => hne3 (by rw [← ByteArray.toList_eq, ← ByteArray.toList_eq]; exact e)
            go_wp2_with fail
            go_ret
            exact ⟨by simp [hne4], HG10.out⟩
end Go.Proofs.YtgeidnfigncepaaDoor
