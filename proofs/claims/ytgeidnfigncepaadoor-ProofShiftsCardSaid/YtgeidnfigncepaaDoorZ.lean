/- The law ProofShifts. -/
import Derived.Test.YtgeidnfigncepaaDoorY
namespace Go.Proofs.YtgeidnfigncepaaDoor
open Go.RowKit

theorem shift_any {w : World} {a : Option Addr} {c n : Nat} {l : List St} (h : Arg w a c n l) (d : Int) (hl : l.length ≤ 200) (h60 : ∀ x ∈ l, x.2.1.length ≤ 60) (hy : ∀ x ∈ l, ∀ y ∈ x.2.1, -1000000 ≤ y ∧ y ≤ 1000000) (hd : -1000000 ≤ d ∧ d ≤ 1000000) :
    Calls Tryd.prog 19 #[.slice a n c, .int .i64 d] w fun e w' => ∃ a' c', e = .returned (.slice a' n c') ∧ Arg w' a' c' n (shL d l) ∧ w.grownBy w' none := by
  refine (shift_calls d l n h.len a c w h.steps (by omega) (fun x hx => ⟨by have := h60 x hx; omega, hy x hx⟩) hd).mono ?_
  rintro e w' ⟨a', c', rfl, hs, hg⟩
  refine ⟨a', c', rfl, ⟨by rw [shL, List.length_map]; exact h.len, hs, by rw [shL, List.length_map]; exact h.most, fun x hx => ?_⟩, hg⟩
  obtain ⟨z, hz, rfl⟩ := List.mem_map.1 hx
  have := h.lits z hz
  simp only [shS, List.length_map]
  exact this
theorem shL_len (d : Int) (l : List St) : (shL d l).length = l.length := by simp [shL]
theorem shL_60 {d : Int} {l : List St} (h : ∀ x ∈ l, x.2.1.length ≤ 60) : ∀ x ∈ shL d l, x.2.1.length ≤ 60 := by
  intro x hx
  obtain ⟨z, hz, rfl⟩ := List.mem_map.1 hx
  simp only [shS, List.length_map]; exact h z hz
theorem shL_in {d m : Int} {l : List St} (h : ∀ x ∈ l, ∀ y ∈ x.2.1, -m ≤ y ∧ y ≤ m) (hd : 0 ≤ d) : ∀ x ∈ shL d l, ∀ y ∈ x.2.1, -(m + d) ≤ y ∧ y ≤ m + d := by
  intro x hx y hy
  obtain ⟨z, hz, rfl⟩ := List.mem_map.1 hx
  obtain ⟨u, hu, rfl⟩ := List.mem_map.1 hy
  have := h z hz u hu
  unfold shI
  split <;> omega

set_option maxHeartbeats 4000000 in
theorem shifts_calls (v : Nat) (hv : v < 65536) (l : List St) (n : Nat) (a : Option Addr) (c : Nat) (b : Nat) (hb : b < 65536) (m : Nat) (hm : m < 65536) (w : World) (h : Arg w a c n l) (ht : Tab w) :
    Calls Tryd.prog 8 #[.int .u16 (v : Int), .slice a n c, .int .u16 (b : Int), .int .u16 (m : Int)] w fun e w' => e = .returned (.bool true) ∧ w.grownBy w' none := by
  have HA := Lib.hid h; clear h
  have HT := Lib.hid ht; clear ht
  go_enter Tryd.func8, Tryd.ntmps8
  go_wp2_with fail
  refine (head_says w HT.out).mono ?_
  rintro e w1 ⟨rfl, g1⟩
  have HG1 := Lib.hid g1; clear g1
  go_wp2_with fail
  refine (few_any (HA.out.go HG1.out) 200).mono ?_
  rintro e w2 ⟨rfl, g2⟩
  have HG2 := Lib.hid (HG1.out.trans g2); clear g2
  cases hf : fewB 200 l with
  | false =>
    clear hf
    go_wp2_with fail
    go_ret
    exact ⟨rfl, HG2.out⟩
  | true =>
    have HF := Lib.hid (fewB_of hf); clear hf
    go_wp2_with fail
    refine (valid_any (HA.out.go HG2.out) (v : Int)).mono ?_
    rintro e w3 ⟨rfl, g3⟩
    have HG3 := Lib.hid (HG2.out.trans g3); clear g3
    cases hw : validB (v : Int) l with
    | false =>
      clear hw
      go_wp2_with fail
      go_ret
      exact ⟨rfl, HG3.out⟩
    | true =>
      have HV := Lib.hid hw; clear hw
      go_wp2_with fail
      refine (defines_any (HA.out.go HG3.out)).mono ?_
      rintro e w4 ⟨rfl, g4⟩
      have HG4 := Lib.hid (HG3.out.trans g4); clear g4
      obtain ⟨D, hD⟩ : ∃ D, defs l = D := ⟨_, rfl⟩
      rw [hD]
      by_cases hD0 : D = 0
      · subst hD0
        have HD := Lib.hid hD; clear hD
        have HIN : Hid (∀ x ∈ l, (∀ y ∈ x.2.1, -20000 ≤ y ∧ y ≤ 20000) ∧ ∀ y ∈ x.2.1, y ≠ 0) := Lib.hid (fun x hx => by
          obtain ⟨h1, h2⟩ := validB_range HV.out
          have := okF_good ⟨h1.1, h1.2.1⟩ h2 x hx
          exact ⟨this.2.1, fun y hy => (this.1.2.1 y hy).1⟩)
        have HL1 : Hid (∀ x ∈ l, ∀ y ∈ x.2.1, -1000000 ≤ y ∧ y ≤ 1000000) := Lib.hid (fun x hx y hy => by have := (HIN.out x hx).1 y hy; omega)
        have HL2 : Hid (∀ x ∈ shL (b : Int) l, ∀ y ∈ x.2.1, -1000000 ≤ y ∧ y ≤ 1000000) := Lib.hid (fun x hx y hy => by have := shL_in (m := 20000) (fun x hx => (HIN.out x hx).1) (by omega : (0 : Int) ≤ (b : Int)) x hx y hy; omega)
        go_wp2_with fail
        refine (shift_any (HA.out.go HG4.out) (b : Int) HF.out.1 HF.out.2 HL1.out ⟨by omega, by omega⟩).mono ?_
        rintro e w5 ⟨a5, c5, rfl, har, g5⟩
        have HG5 := Lib.hid (HG4.out.trans g5); clear g5
        have HX5 := Lib.hid har; clear har
        by_cases hnv : 20000 < v + b
        · have d1 : decide (20000 < (v : Int) + (b : Int)) = true := by simp; omega
          have HW6 : Hid (w5.grownBy w5 none) := Lib.hid (grown_refl _ _)
          go_wp2_with fail
          refine (shift_any HX5.out (-(b : Int)) (by rw [shL_len]; exact HF.out.1) (shL_60 HF.out.2) HL2.out ⟨by omega, by omega⟩).mono ?_
          rintro e w7 ⟨a7, c7, rfl, har, g7⟩
          have HG7 := Lib.hid (HG5.out.trans g7)
          have HX7 := Lib.hid (HX5.out.go g7); clear g7
          rw [shL_back (by omega) (fun x hx => (HIN.out x hx).2)] at har
          have HB7 := Lib.hid har; clear har
          go_wp2_with fail
          refine (rEqual_any HB7.out (HA.out.go HG7.out)).mono ?_
          rintro e w8 ⟨rfl, g8⟩
          rw [decide_eq_true (rfl : l = l)]
          have HG8 := Lib.hid (HG7.out.trans g8)
          have HX8 := Lib.hid (HX7.out.go g8); clear g8 HB7
          go_wp2_with fail
          refine (shift_any HX8.out (m : Int) (by rw [shL_len]; exact HF.out.1) (shL_60 HF.out.2) HL2.out ⟨by omega, by omega⟩).mono ?_
          rintro e w9 ⟨a9, c9, rfl, har, g9⟩
          have HG9 := Lib.hid (HG8.out.trans g9); clear g9
          rw [shL_add (by omega)] at har
          have HB9 := Lib.hid har; clear har
          go_wp2_with fail
          refine (shift_any (HA.out.go HG9.out) ((b : Int) + (m : Int)) HF.out.1 HF.out.2 HL1.out ⟨by omega, by omega⟩).mono ?_
          rintro e w10 ⟨a10, c10, rfl, har, g10⟩
          have HG10 := Lib.hid (HG9.out.trans g10)
          have HB10 := Lib.hid (HB9.out.go g10); clear g10 HB9
          have HC10 := Lib.hid har; clear har
          go_wp2_with fail
          refine (rEqual_any HB10.out HC10.out).mono ?_
          rintro e w11 ⟨rfl, g11⟩
          rw [decide_eq_true (rfl : shL ((b : Int) + (m : Int)) l = shL ((b : Int) + (m : Int)) l)]
          have HG11 := Lib.hid (HG10.out.trans g11); clear g11
          go_wp2_with fail
          refine (shift_any (HA.out.go HG11.out) 0 HF.out.1 HF.out.2 HL1.out ⟨by omega, by omega⟩).mono ?_
          rintro e w12 ⟨a12, c12, rfl, har, g12⟩
          have HG12 := Lib.hid (HG11.out.trans g12); clear g12
          rw [shL_zero] at har
          have HB12 := Lib.hid har; clear har
          go_wp2_with fail
          refine (rEqual_any HB12.out (HA.out.go HG12.out)).mono ?_
          rintro e w13 ⟨rfl, g13⟩
          rw [decide_eq_true (rfl : l = l)]
          have HG13 := Lib.hid (HG12.out.trans g13); clear g13
          go_wp2_with fail
          go_ret
          exact ⟨rfl, HG13.out⟩
        · have d1 : decide (20000 < (v : Int) + (b : Int)) = false := by simp; omega
          go_wp2_with fail
          refine (valid_any HX5.out ((v : Int) + (b : Int))).mono ?_
          rintro e w6 ⟨rfl, g6⟩
          rw [validB_shift HV.out HD.out (by omega) (by omega)]
          have HG6 := Lib.hid (HG5.out.trans g6)
          have HX6 := Lib.hid (HX5.out.go g6); clear g6
          go_wp2_with fail
          refine (shift_any HX6.out (-(b : Int)) (by rw [shL_len]; exact HF.out.1) (shL_60 HF.out.2) HL2.out ⟨by omega, by omega⟩).mono ?_
          rintro e w7 ⟨a7, c7, rfl, har, g7⟩
          have HG7 := Lib.hid (HG6.out.trans g7)
          have HX7 := Lib.hid (HX6.out.go g7); clear g7
          rw [shL_back (by omega) (fun x hx => (HIN.out x hx).2)] at har
          have HB7 := Lib.hid har; clear har
          go_wp2_with fail
          refine (rEqual_any HB7.out (HA.out.go HG7.out)).mono ?_
          rintro e w8 ⟨rfl, g8⟩
          rw [decide_eq_true (rfl : l = l)]
          have HG8 := Lib.hid (HG7.out.trans g8)
          have HX8 := Lib.hid (HX7.out.go g8); clear g8 HB7
          go_wp2_with fail
          refine (shift_any HX8.out (m : Int) (by rw [shL_len]; exact HF.out.1) (shL_60 HF.out.2) HL2.out ⟨by omega, by omega⟩).mono ?_
          rintro e w9 ⟨a9, c9, rfl, har, g9⟩
          have HG9 := Lib.hid (HG8.out.trans g9); clear g9
          rw [shL_add (by omega)] at har
          have HB9 := Lib.hid har; clear har
          go_wp2_with fail
          refine (shift_any (HA.out.go HG9.out) ((b : Int) + (m : Int)) HF.out.1 HF.out.2 HL1.out ⟨by omega, by omega⟩).mono ?_
          rintro e w10 ⟨a10, c10, rfl, har, g10⟩
          have HG10 := Lib.hid (HG9.out.trans g10)
          have HB10 := Lib.hid (HB9.out.go g10); clear g10 HB9
          have HC10 := Lib.hid har; clear har
          go_wp2_with fail
          refine (rEqual_any HB10.out HC10.out).mono ?_
          rintro e w11 ⟨rfl, g11⟩
          rw [decide_eq_true (rfl : shL ((b : Int) + (m : Int)) l = shL ((b : Int) + (m : Int)) l)]
          have HG11 := Lib.hid (HG10.out.trans g11); clear g11
          go_wp2_with fail
          refine (shift_any (HA.out.go HG11.out) 0 HF.out.1 HF.out.2 HL1.out ⟨by omega, by omega⟩).mono ?_
          rintro e w12 ⟨a12, c12, rfl, har, g12⟩
          have HG12 := Lib.hid (HG11.out.trans g12); clear g12
          rw [shL_zero] at har
          have HB12 := Lib.hid har; clear har
          go_wp2_with fail
          refine (rEqual_any HB12.out (HA.out.go HG12.out)).mono ?_
          rintro e w13 ⟨rfl, g13⟩
          rw [decide_eq_true (rfl : l = l)]
          have HG13 := Lib.hid (HG12.out.trans g13); clear g13
          go_wp2_with fail
          go_ret
          exact ⟨rfl, HG13.out⟩
      · have d1 : decide (0 < (D : Int)) = true := by simp; omega
        have d1' : decide (0 < D) = true := by simp; omega
        go_wp2_with fail
        go_ret
        exact ⟨rfl, HG4.out⟩
end Go.Proofs.YtgeidnfigncepaaDoor
