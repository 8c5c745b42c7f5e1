/- The laws ProofRoundTrip, ProofMoreVariables, ProofDecodesOnlyTexts. -/
import Derived.Test.YtgeidnfigncepaaDoorV
namespace Go.Proofs.YtgeidnfigncepaaDoor
open Go.RowKit

theorem numB_le {x : Int} (h : GoodN x) : (numB x).length ≤ 11 := by
  unfold GoodN at h
  unfold numB Lib.itoa
  split
  · have := decDigits_length_le (u := x.natAbs) (by omega)
    simp only [List.length_cons]; omega
  · have := decDigits_length_le (u := x.toNat) (by omega)
    simp only [List.length_cons]; omega
theorem numsB_le : ∀ {l : List Int}, (∀ y ∈ l, GoodN y) → (numsB l).length ≤ 11 * l.length
  | [], _ => by simp [numsB]
  | x :: l, h => by
    rw [numsB_cons, List.length_append, List.length_cons]
    have h1 := numB_le (h x (by simp))
    have h2 := numsB_le (l := l) (fun y hy => h y (by simp [hy]))
    omega
theorem encS_le {x : St} (h : GoodS x) (h60 : x.2.1.length ≤ 60) : (encS x).length ≤ 700 := by
  have h1 := numsB_le (l := x.2.1) (fun y hy => (h.2.1 y hy).2)
  unfold encS
  rw [List.length_cons, List.length_append, List.length_append, List.length_cons, List.length_cons, List.length_cons, List.length_nil]
  split
  · rename_i h4
    have := numB_le (h.2.2.1 h4)
    omega
  · simp only [List.length_nil]; omega
theorem enc_le : ∀ {l : List St}, GoodL l → (∀ x ∈ l, x.2.1.length ≤ 60) → (enc l).length ≤ 700 * l.length
  | [], _, _ => by simp [enc]
  | x :: l, h, h60 => by
    rw [enc_cons, List.length_append, List.length_cons]
    have h1 := encS_le (h x (by simp)) (h60 x (by simp))
    have h2 := enc_le (l := l) (fun y hy => h y (by simp [hy])) (fun y hy => h60 y (by simp [hy]))
    omega
theorem fewB_of {m : Nat} {l : List St} (h : fewB m l = true) : l.length ≤ m ∧ ∀ x ∈ l, x.2.1.length ≤ 60 := by
  simp only [fewB, Bool.and_eq_true, decide_eq_true_eq, List.all_eq_true, fewS] at h
  exact h
theorem enc_small {m : Nat} {l : List St} (hf : fewB m l = true) (hm : m ≤ 200) (hg : GoodL l) : (enc l).length ≤ 140000 := by
  obtain ⟨h1, h2⟩ := fewB_of hf
  have := enc_le hg h2
  have : 700 * l.length ≤ 700 * 200 := Nat.mul_le_mul_left _ (by omega)
  omega
/-- An argument: steps that lie in memory, in slices no longer than Go's. -/
structure Arg (w : World) (a : Option Addr) (c n : Nat) (l : List St) : Prop where
  len : l.length = n
  steps : Steps w a c l
  most : (l.length : Int) ≤ 9223372036854775807
  lits : ∀ x ∈ l, (x.2.1.length : Int) ≤ 9223372036854775807
theorem Arg.go {w w' : World} {a : Option Addr} {c n : Nat} {l : List St} (h : Arg w a c n l) (hg : w.grownBy w' none) : Arg w' a c n l := ⟨h.len, h.steps.grown hg, h.most, h.lits⟩
theorem few_any {w : World} {a : Option Addr} {c n : Nat} {l : List St} (h : Arg w a c n l) (m : Nat) : Calls Tryd.prog 11 #[.slice a n c, .int .i64 (m : Int)] w fun e w' => e = .returned (.bool (fewB m l)) ∧ w.grownBy w' none := by
  have := few_calls l a c m w h.steps h.most
  rw [h.len] at this
  exact this.mono fun e w' ⟨h1, h2⟩ => ⟨h1, by rw [h2]; exact grown_refl _ _⟩
theorem valid_any {w : World} {a : Option Addr} {c n : Nat} {l : List St} (h : Arg w a c n l) (v : Int) : Calls Tryd.prog 12 #[.int .i64 v, .slice a n c] w fun e w' => e = .returned (.bool (validB v l)) ∧ w.grownBy w' none :=
  valid_calls v l n h.len a c w h.steps h.most h.lits
theorem equal_any {w : World} {a a' : Option Addr} {c c' n n' : Nat} {l m : List St} (h : Arg w a c n l) (h' : Arg w a' c' n' m) : Calls Tryd.prog 16 #[.slice a n c, .slice a' n' c'] w fun e w' => e = .returned (.bool (decide (l = m))) ∧ w.grownBy w' none := by
  have := equal_calls l m a a' c c' w h.steps h'.steps h.most h.lits
  rw [h.len, h'.len] at this
  exact this
theorem rEqual_any {w : World} {a a' : Option Addr} {c c' n n' : Nat} {l m : List St} (h : Arg w a c n l) (h' : Arg w a' c' n' m) : Calls Tryd.prog 15 #[.slice a n c, .slice a' n' c'] w fun e w' => e = .returned (.bool (decide (l = m))) ∧ w.grownBy w' none := by
  have := rEqual_calls l m a a' c c' w h.steps h'.steps h.most h.lits
  rw [h.len, h'.len] at this
  exact this.mono fun e w' ⟨h1, q, h2⟩ => ⟨h1, by rw [h2]; exact grown_drewN _ _ _⟩
theorem encode_any {w : World} {a : Option Addr} {c n : Nat} {l : List St} (h : Arg w a c n l) (hg : GoodL l) (hs : (enc l).length ≤ 1000000000) (ht : Tab w) : Calls Tryd.prog 14 #[.slice a n c] w fun e w' => e = .returned (.string ⟨(enc l).toArray⟩) ∧ w.grownBy w' none :=
  encode_calls l n h.len a c w h.steps hg hs ht
theorem defines_any {w : World} {a : Option Addr} {c n : Nat} {l : List St} (h : Arg w a c n l) : Calls Tryd.prog 18 #[.slice a n c] w fun e w' => e = .returned (.int .i64 (defs l : Nat)) ∧ w.grownBy w' none :=
  (defines_calls l n h.len a c w h.steps h.most).mono fun e w' ⟨h1, h2⟩ => ⟨h1, by rw [← h2]; exact grown_refl _ _⟩
/-- Steps that Decode has made are an argument, too, where the text is short. -/
theorem lits_len {x : St} : x.2.1.length ≤ (encS x).length := lits_le x
theorem arg_of_dec {w : World} {a : Option Addr} {c : Nat} {l : List St} {t : List UInt8} (h : Steps w a c l) (hd : dec t = some l) (ht : t.length ≤ 2000000) : Arg w a c l.length l := by
  obtain ⟨hg, he⟩ := dec_sound _ _ _ rfl hd
  have key : ∀ m : List St, m.length ≤ (enc m).length ∧ ∀ x ∈ m, x.2.1.length ≤ (enc m).length := by
    intro m
    induction m with
    | nil => exact ⟨Nat.zero_le _, fun x hx => by cases hx⟩
    | cons x m ih =>
      rw [enc_cons, List.length_append, List.length_cons]
      have h1 := encS_pos x
      have h2 := lits_le x
      refine ⟨by omega, fun y hy => ?_⟩
      rcases List.mem_cons.1 hy with rfl | hy
      · omega
      · have := ih.2 y hy; omega
  have := key l
  rw [he] at this
  exact ⟨rfl, h, by omega, fun x hx => by have := this.2 x hx; omega⟩
theorem size_list (l : List UInt8) : (⟨l.toArray⟩ : ByteArray).size = l.length := by simp [ByteArray.size]
theorem toList_list (l : List UInt8) : (⟨l.toArray⟩ : ByteArray).data.toList = l := by simp


set_option maxHeartbeats 4000000 in
theorem roundTrip_calls (v : Nat) (hv : v < 65536) (l : List St) (n : Nat) (a : Option Addr) (c : Nat) (w : World) (h : Arg w a c n l) (ht : Tab w) :
    Calls Tryd.prog 3 #[.int .u16 (v : Int), .slice a n c] w fun e w' => e = .returned (.bool true) ∧ w.grownBy w' none := by
  have HA := Lib.hid h; clear h
  have HT := Lib.hid ht; clear ht
  go_enter Tryd.func3, Tryd.ntmps3
  go_wp2_with fail
  refine (head_says w HT.out).mono ?_
  rintro e w1 ⟨rfl, g1⟩
  have HG1 := Lib.hid g1; clear g1
  go_wp2_with fail
  refine (few_any (HA.out.go HG1.out) 200).mono ?_
  rintro e w2 ⟨rfl, g2⟩
  have HG2 := Lib.hid (HG1.out.trans g2); clear g2
  cases hf : fewB 200 l with
  | false =>
    clear hf
    go_wp2_with fail
    go_ret
    exact ⟨rfl, HG2.out⟩
  | true =>
    have HF := Lib.hid hf; clear hf
    go_wp2_with fail
    refine (valid_any (HA.out.go HG2.out) (v : Int)).mono ?_
    rintro e w3 ⟨rfl, g3⟩
    have HG3 := Lib.hid (HG2.out.trans g3); clear g3
    cases hw : validB (v : Int) l with
    | false =>
      clear hw
      go_wp2_with fail
      go_ret
      exact ⟨rfl, HG3.out⟩
    | true =>
      have HGD := Lib.hid (validB_good hw); clear hw
      have HSZ := Lib.hid (enc_small HF.out (by omega) HGD.out)
      go_wp2_with fail
      refine (encode_any (HA.out.go HG3.out) HGD.out (by have := HSZ.out; omega) (HT.out.grown HG3.out)).mono ?_
      rintro e w4 ⟨rfl, g4⟩
      have HG4 := Lib.hid (HG3.out.trans g4); clear g4
      obtain ⟨S, hS⟩ : ∃ S : ByteArray, ⟨(enc l).toArray⟩ = S := ⟨_, rfl⟩
      have HSS : Hid (S.size ≤ 140000 ∧ S.data.toList = enc l) := Lib.hid ⟨by rw [← hS, size_list]; exact HSZ.out, by rw [← hS]⟩
      rw [hS]; clear hS
      go_wp2_with fail
      have hd := decode_calls S w4 (by have := HSS.out.1; omega)
      rw [HSS.out.2, dec_enc l HGD.out] at hd
      refine hd.mono ?_
      clear hd
      rintro e w5 ⟨g5, a', c', rfl, hst⟩
      have HD := Lib.hid (arg_of_dec hst (dec_enc l HGD.out) (by have := HSZ.out; omega))
      have HG5 := Lib.hid (HG4.out.trans g5); clear g5 hst
      obtain ⟨n', hn'⟩ : ∃ n', l.length = n' := ⟨_, rfl⟩
      rw [hn'] at HD ⊢
      clear hn'
      go_wp2_with fail
      refine (rEqual_any (HA.out.go HG5.out) HD.out).mono ?_
      rintro e w6 ⟨rfl, g6⟩
      rw [decide_eq_true (rfl : l = l)]
      have HG6 := Lib.hid (And.intro (HG5.out.trans g6) g6); clear g6
      go_wp2_with fail
      refine (equal_any (HA.out.go HG6.out.1) (HD.out.go HG6.out.2)).mono ?_
      rintro e w7 ⟨rfl, g7⟩
      rw [decide_eq_true (rfl : l = l)]
      have HG7 := Lib.hid (HG6.out.1.trans g7); clear g7
      go_wp2_with fail
      go_ret
      exact ⟨rfl, HG7.out⟩

theorem bool_eq (a b : Bool) : (a == b) = decide (a = b) := by cases a <;> cases b <;> rfl
set_option maxHeartbeats 4000000 in
theorem moreVariables_calls (v : Nat) (hv : v < 65536) (l : List St) (n : Nat) (a : Option Addr) (c : Nat) (m : Nat) (hm : m < 65536) (w : World) (h : Arg w a c n l) (ht : Tab w) :
    Calls Tryd.prog 7 #[.int .u16 (v : Int), .slice a n c, .int .u16 (m : Int)] w fun e w' => e = .returned (.bool true) ∧ w.grownBy w' none := by
  have HA := Lib.hid h; clear h
  have HT := Lib.hid ht; clear ht
  go_enter Tryd.func7, Tryd.ntmps7
  go_wp2_with fail
  refine (head_says w HT.out).mono ?_
  rintro e w1 ⟨rfl, g1⟩
  have HG1 := Lib.hid g1; clear g1
  go_wp2_with fail
  refine (few_any (HA.out.go HG1.out) 200).mono ?_
  rintro e w2 ⟨rfl, g2⟩
  have HG2 := Lib.hid (HG1.out.trans g2); clear g2
  cases hf : fewB 200 l with
  | false =>
    clear hf
    go_wp2_with fail
    go_ret
    exact ⟨rfl, HG2.out⟩
  | true =>
    have HF := Lib.hid hf; clear hf
    go_wp2_with fail
    refine (valid_any (HA.out.go HG2.out) (v : Int)).mono ?_
    rintro e w3 ⟨rfl, g3⟩
    have HG3 := Lib.hid (HG2.out.trans g3); clear g3
    cases hw : validB (v : Int) l with
    | false =>
      clear hw
      go_wp2_with fail
      go_ret
      exact ⟨rfl, HG3.out⟩
    | true =>
      have HV := Lib.hid hw; clear hw
      by_cases hsum : v + m ≤ 20000
      · have d1 : decide (20000 < (v : Int) + (m : Int)) = false := by simp; omega
        have HM := Lib.hid (validB_more HV.out m (by omega))
        go_wp2_with fail
        refine (valid_any (HA.out.go HG3.out) ((v : Int) + (m : Int))).mono ?_
        rintro e w4 ⟨rfl, g4⟩
        rw [HM.out]
        have HG4 := Lib.hid (HG3.out.trans g4); clear g4
        obtain ⟨D, hD⟩ : ∃ D, defs l = D := ⟨_, rfl⟩
        rw [hD]
        by_cases hD0 : D = 0
        · subst hD0
          rw [decide_eq_true (rfl : (0 : Nat) = 0), Bool.true_or]
          have HDD := Lib.hid hD; clear hD
          go_wp2_with fail
          refine (defines_any (HA.out.go HG4.out)).mono ?_
          rintro e w5 ⟨rfl, g5⟩
          rw [HDD.out]
          have HG5 := Lib.hid (HG4.out.trans g5); clear g5
          go_wp2_with fail
          go_ret
          exact ⟨rfl, HG5.out⟩
        · have d2 : ((D : Int) == 0) = false := by simp; omega
          rw [decide_eq_false hD0, Bool.false_or]
          have HDD := Lib.hid hD; clear hD hD0
          by_cases hm0 : m = 0
          · subst hm0
            rw [decide_eq_true (rfl : (0 : Nat) = 0)]
            go_wp2_with fail
            refine (defines_any (HA.out.go HG4.out)).mono ?_
            rintro e w5 ⟨rfl, g5⟩
            rw [HDD.out]
            have HG5 := Lib.hid (HG4.out.trans g5); clear g5
            go_wp2_with fail
            go_ret
            exact ⟨rfl, HG5.out⟩
          · have d3 : ((m : Int) == 0) = false := by simp; omega
            rw [decide_eq_false hm0]
            clear hm0
            go_wp2_with fail
            refine (defines_any (HA.out.go HG4.out)).mono ?_
            rintro e w5 ⟨rfl, g5⟩
            rw [HDD.out]
            have HG5 := Lib.hid (HG4.out.trans g5); clear g5
            go_wp2_with fail
            go_ret
            exact ⟨rfl, HG5.out⟩
      · have d1 : decide (20000 < (v : Int) + (m : Int)) = true := by simp; omega
        go_wp2_with fail
        go_ret
        exact ⟨rfl, HG3.out⟩

set_option maxHeartbeats 4000000 in
theorem onlyTexts_calls (s : ByteArray) (hs : s.size ≤ 9223372036854775807) (w : World) (ht : Tab w) :
    Calls Tryd.prog 4 #[.string s] w fun e w' => e = .returned (.bool true) ∧ w.grownBy w' none := by
  have HT := Lib.hid ht; clear ht
  go_enter Tryd.func4, Tryd.ntmps4
  go_wp2_with fail
  refine (head_says w HT.out).mono ?_
  rintro e w1 ⟨rfl, g1⟩
  have HG1 := Lib.hid g1; clear g1
  by_cases h4 : s.size ≤ 4000
  · have d1 : decide (4000 < s.size) = false := by simp; omega
    have d1' : decide (4000 < (s.size : Int)) = false := by simp; omega
    go_wp2_with fail
    refine (decode_calls s w1 (by omega)).mono ?_
    rintro e w2 ⟨g2, hp⟩
    have HG2 := Lib.hid (HG1.out.trans g2); clear g2
    cases hd : dec s.data.toList with
    | none =>
      rw [hd] at hp
      obtain rfl : e = _ := hp
      clear hd
      go_wp2_with fail
      go_ret
      exact ⟨rfl, HG2.out⟩
    | some l =>
      rw [hd] at hp
      obtain ⟨a, c, rfl, hst⟩ := hp
      have HGD := Lib.hid (dec_sound _ _ _ rfl hd)
      have hlen : s.data.toList.length ≤ 4000 := by rw [Array.length_toList]; exact h4
      have HD := Lib.hid (arg_of_dec hst hd (by omega))
      have HE : Hid ((⟨(enc l).toArray⟩ : ByteArray) = s ∧ (enc l).length ≤ 4000) := Lib.hid ⟨by rw [HGD.out.2], by rw [HGD.out.2]; exact hlen⟩
      clear hd hst hlen
      obtain ⟨n', hn'⟩ : ∃ n', l.length = n' := ⟨_, rfl⟩
      rw [hn'] at HD ⊢
      clear hn'
      go_wp2_with fail
      refine (plain_calls l n' HD.out.len a c _ HD.out.steps HD.out.most HGD.out.1 HD.out.lits).mono ?_
      rintro e w3 ⟨rfl, rfl⟩
      go_wp2_with fail
      refine (encode_any HD.out HGD.out.1 (by have := HE.out.2; omega) (HT.out.grown HG2.out)).mono ?_
      rintro e w3 ⟨rfl, g3⟩
      rw [HE.out.1]
      have HG3 := Lib.hid (HG2.out.trans g3); clear g3
      go_wp2_with fail
      go_ret
      exact ⟨by simp, HG3.out⟩
  · have d1 : decide (4000 < s.size) = true := by simp; omega
    have d1' : decide (4000 < (s.size : Int)) = true := by simp; omega
    go_wp2_with fail
    go_ret
    exact ⟨rfl, HG1.out⟩
end Go.Proofs.YtgeidnfigncepaaDoor
