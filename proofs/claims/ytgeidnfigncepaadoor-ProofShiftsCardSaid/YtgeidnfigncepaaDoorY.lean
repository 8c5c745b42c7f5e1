/- The law ProofPrefixes. -/
import Derived.Test.YtgeidnfigncepaaDoorX
namespace Go.Proofs.YtgeidnfigncepaaDoor
open Go.RowKit

theorem add_any (b o j : Nat) : (⟨b, o, none⟩ : Addr).add j = ⟨b, o + j, none⟩ := by unfold Addr.add; split <;> simp_all
theorem steps_part {w : World} {a : Option Addr} {c : Nat} {l : List St} (h : Steps w a c l) (k : Nat) (hk : k ≤ l.length) : Steps w (if c = k then a else a.map (·.add (k * 3))) (c - k) (l.drop k) := by
  have hc := h.1
  refine ⟨by rw [List.length_drop]; omega, fun j x hj => ?_⟩
  rw [List.getElem?_drop] at hj
  obtain ⟨b, o, rfl, hs⟩ := h.2 _ x hj
  have hlt : k + j < l.length := by
    rcases Nat.lt_or_ge (k + j) l.length with h | h
    · exact h
    · rw [List.getElem?_eq_none h] at hj; cases hj
  rw [if_neg (by omega)]
  exact ⟨b, o + k * 3, by simp [add_any], by rw [show o + k * 3 + j * 3 = o + (k + j) * 3 by rw [Nat.add_mul]; omega]; exact hs⟩
theorem add_nil (x : Addr) : x.add 0 = x := by unfold Addr.add; split <;> simp_all
theorem run_h (a : Option Addr) (n c K : Nat) (h : K ≤ c) (W : World) : (Instr.slice 23 (.slice a n c) none (some (.int .i64 (K : Int))) none).run Tryd.prog W = .ok (.slice a K c) W := by
  rw [run_slice_h (P := Tryd.prog) W 23 a n c (by kernel_rfl) .i64 K (by omega) (by omega)]
  have hs : ∀ W, (sizeOf (Tryd.prog.elem 23)).run Tryd.prog W = .ok 3 W := fun W => by kernel_rfl
  rw [hs]
  simp [Result.andThen, sliced]
  intro _
  cases a with
  | none => rfl
  | some x => simp [add_nil]
theorem run_l (a : Option Addr) (n c K : Nat) (h : K ≤ n) (W : World) : (Instr.slice 23 (.slice a n c) (some (.int .i64 (K : Int))) none none).run Tryd.prog W = .ok (.slice (if c = K then a else a.map (·.add (K * 3))) (n - K) (c - K)) W := by
  rw [run_slice_l (P := Tryd.prog) W 23 a n c (by kernel_rfl) .i64 K (by omega) (by omega)]
  have hs : ∀ W, (sizeOf (Tryd.prog.elem 23)).run Tryd.prog W = .ok 3 W := fun W => by kernel_rfl
  rw [hs]
  simp [Result.andThen, sliced]
set_option maxHeartbeats 4000000 in
theorem prefixes_calls (v : Nat) (hv : v < 65536) (l : List St) (n : Nat) (a : Option Addr) (c : Nat) (t : Nat) (ht' : t < 256) (w : World) (h : Arg w a c n l) (ht : Tab w) :
    Calls Tryd.prog 6 #[.int .u16 (v : Int), .slice a n c, .int .u8 (t : Int)] w fun e w' => e = .returned (.bool true) ∧ w.grownBy w' none := by
  have HA := Lib.hid h
  have hnc : n ≤ c := by have := h.steps.1; rw [h.len] at this; exact this
  have hnm : (n : Int) ≤ 9223372036854775807 := by have := h.most; rw [h.len] at this; exact this
  clear h
  have HT := Lib.hid ht; clear ht
  go_enter Tryd.func6, Tryd.ntmps6
  go_wp2_with fail
  refine (head_says w HT.out).mono ?_
  rintro e w1 ⟨rfl, g1⟩
  have HG1 := Lib.hid g1; clear g1
  go_wp2_with fail
  refine (few_any (HA.out.go HG1.out) 200).mono ?_
  rintro e w2 ⟨rfl, g2⟩
  have HG2 := Lib.hid (HG1.out.trans g2); clear g2
  cases hf : fewB 200 l with
  | false =>
    clear hf
    go_wp2_with fail
    go_ret
    exact ⟨rfl, HG2.out⟩
  | true =>
    have HF := Lib.hid hf
    have hn200 : n ≤ 200 := by have := (fewB_of hf).1; rw [HA.out.len] at this; exact this
    clear hf
    go_wp2_with fail
    refine (valid_any (HA.out.go HG2.out) (v : Int)).mono ?_
    rintro e w3 ⟨rfl, g3⟩
    have HG3 := Lib.hid (HG2.out.trans g3); clear g3
    cases hw : validB (v : Int) l with
    | false =>
      clear hw
      go_wp2_with fail
      go_ret
      exact ⟨rfl, HG3.out⟩
    | true =>
      have HV := Lib.hid hw; clear hw
      obtain ⟨K, hK⟩ : ∃ K : Nat, (t : Int).tmod ((n : Int) + 1) = (K : Int) ∧ K ≤ n := ⟨t % (n + 1), by rw [Int.tmod_eq_emod_of_nonneg (by omega)]; simp, by have := Nat.mod_lt t (show 0 < n + 1 by omega); omega⟩
      have hKe : (t : Int) % ((n : Int) + 1) = (K : Int) := by rw [← Int.tmod_eq_emod_of_nonneg (by omega)]; exact hK.1
      have hKn := hK.2
      have hz : ¬ ((n : Int) + 1 = 0) := by omega
      go_wp2_with fail
      have r1 := run_h a n c K (by omega)
      have r2 := run_l a n c K hKn
      obtain ⟨a2, ha2⟩ : ∃ a2, (if c = K then a else a.map (·.add (K * 3))) = a2 := ⟨_, rfl⟩
      have HS2 := Lib.hid (fun (W : World) (hW : w.grownBy W none) => by
        have := steps_part (HA.out.steps.grown hW) K (by rw [HA.out.len]; exact hKn)
        rw [ha2] at this
        exact this)
      rw [ha2] at r2
      clear ha2 hK hKe hz
      go_quiet (fail)
      clear r1 r2
      have HP : Hid (∀ W, w.grownBy W none → Arg W a c K (l.take K) ∧ Arg W a2 (c - K) (n - K) (l.drop K)) := Lib.hid (fun W hW => by
        have h1 := (HA.out.go hW).part (steps_take (HA.out.steps.grown hW) K) (fun x hx => List.mem_of_mem_take hx) (by rw [List.length_take]; omega)
        have h2 := (HA.out.go hW).part (HS2.out W hW) (fun x hx => List.mem_of_mem_drop hx) (by rw [List.length_drop]; omega)
        rw [List.length_take, HA.out.len, Nat.min_eq_left hKn] at h1
        rw [List.length_drop, HA.out.len] at h2
        exact ⟨h1, h2⟩)
      have HVT := Lib.hid (validB_take HV.out K)
      have HGD := Lib.hid (validB_good HV.out)
      have HG4 := Lib.hid (HG3.out.trans (grown_drewN w3 nq none))
      go_wp2_with fail
      refine (valid_any (HP.out _ HG4.out).1 (v : Int)).mono ?_
      rintro e w5 ⟨rfl, g5⟩
      rw [HVT.out.1]
      have HG5 := Lib.hid (HG4.out.trans g5); clear g5
      go_wp2_with fail
      refine (defines_any (HP.out _ HG5.out).1).mono ?_
      rintro e w6 ⟨rfl, g6⟩
      have HG6 := Lib.hid (HG5.out.trans g6); clear g6
      obtain ⟨D, hD⟩ : ∃ D, defs (l.take K) = D := ⟨_, rfl⟩
      have hD20 : D ≤ 200 := by rw [← hD]; exact Nat.le_trans (List.length_filter_le _ _) (by rw [List.length_take, HA.out.len]; omega)
      rw [hD]
      have HD := Lib.hid hD; clear hD
      go_wp2_with fail
      refine (valid_any (HP.out _ HG6.out).2 ((v : Int) + (D : Int))).mono ?_
      rintro e w7 ⟨rfl, g7⟩
      rw [show validB ((v : Int) + (D : Int)) (l.drop K) = true by rw [← HD.out]; exact HVT.out.2]
      have HG7 := Lib.hid (HG6.out.trans g7); clear g7
      have HSZ := Lib.hid (enc_small HF.out (by omega) HGD.out)
      have HPP := Lib.hid (enc_part l K)
      have HG1' : Hid (GoodL (l.take K) ∧ GoodL (l.drop K)) := Lib.hid ⟨fun x hx => HGD.out x (List.mem_of_mem_take hx), fun x hx => HGD.out x (List.mem_of_mem_drop hx)⟩
      go_wp2_with fail
      refine (encode_any (HP.out _ HG7.out).1 HG1'.out.1 (by have := HSZ.out; have := HPP.out.1; omega) (HT.out.grown HG7.out)).mono ?_
      rintro e w8 ⟨rfl, g8⟩
      have HG8 := Lib.hid (HG7.out.trans g8); clear g8
      go_wp2_with fail
      refine (encode_any (HP.out _ HG8.out).2 HG1'.out.2 (by have := HSZ.out; have := HPP.out.2; omega) (HT.out.grown HG8.out)).mono ?_
      rintro e w9 ⟨rfl, g9⟩
      have HG9 := Lib.hid (HG8.out.trans g9); clear g9
      obtain ⟨S1, hS1⟩ : ∃ S : ByteArray, ⟨(enc (l.take K)).toArray⟩ = S := ⟨_, rfl⟩
      obtain ⟨S2, hS2⟩ : ∃ S : ByteArray, ⟨(enc (l.drop K)).toArray⟩ = S := ⟨_, rfl⟩
      obtain ⟨S3, hS3⟩ : ∃ S : ByteArray, S1 ++ S2 = S := ⟨_, rfl⟩
      have hsa : ∀ W : World, (Op.stringOp .add S1 S2).run Tryd.prog W = .ok (.string S3) W := fun W => by
        rw [← hS3]
        exact run_string_add_sum _ _ _ (by rw [← hS1, ← hS2, size_list, size_list]; have := HSZ.out; have := HPP.out; omega)
      have HS3 : Hid ((⟨(enc l).toArray⟩ : ByteArray) = S3) := Lib.hid (by
        rw [← hS3, ← hS1, ← hS2]
        have e : enc l = enc (l.take K) ++ enc (l.drop K) := by rw [← enc_append, List.take_append_drop]
        apply ByteArray.ext
        rw [ByteArray.data_append, e]
        simp)
      rw [hS1, hS2]
      clear hS1 hS2 hS3
      go_wp2_with fail
      refine (encode_any (HA.out.go HG9.out) HGD.out (by have := HSZ.out; omega) (HT.out.grown HG9.out)).mono ?_
      rintro e w10 ⟨rfl, g10⟩
      rw [HS3.out]
      clear hsa
      have HG10 := Lib.hid (HG9.out.trans g10); clear g10
      go_wp2_with fail
      go_ret
      exact ⟨rfl, HG10.out⟩
end Go.Proofs.YtgeidnfigncepaaDoor
