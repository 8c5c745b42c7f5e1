/- The law ProofDetectsCorruption. -/
import Derived.Test.YtgeidnfigncepaaDoorZ
import Derived.Lib.IndexBytes
namespace Go.Proofs.YtgeidnfigncepaaDoor
open Go.RowKit

theorem text_doubled {S : ByteArray} {i : Nat} (h : i < S.size) (hc : S[i] = 32 ∨ S[i] = 10) : dec (S.data.toList.take i ++ (S[i] :: S.data.toList.drop i)) = none := by
  have e : S.data.toList.drop i = S[i] :: S.data.toList.drop (i + 1) := by
    rw [List.drop_eq_getElem_cons (by simpa using h)]; rfl
  rw [e]
  exact dec_doubled hc
theorem last_nl {S : ByteArray} {l : List St} (hS : S.data.toList = enc l) (hl : l ≠ []) (h : S.size - 1 < S.size) : S[S.size - 1] = 10 := by
  have h1 := enc_last hl
  rw [← hS, List.getLast?_eq_getElem?, Array.length_toList] at h1
  have h2 : S.data.toList[S.size - 1]? = some S[S.size - 1] := by rw [List.getElem?_eq_getElem (by simpa using h)]; rfl
  have h3 : S.data.size = S.size := rfl
  rw [h3, h2] at h1
  exact Option.some.inj h1

set_option maxRecDepth 100000 in
set_option maxHeartbeats 8000000 in
theorem corruption_calls (v : Nat) (hv : v < 65536) (l : List St) (n : Nat) (a : Option Addr) (c : Nat) (t : Nat) (ht' : t < 65536) (w : World) (h : Arg w a c n l) (ht : Tab w) :
    Calls Tryd.prog 5 #[.int .u16 (v : Int), .slice a n c, .int .u16 (t : Int)] w fun e w' => e = .returned (.bool true) ∧ w.grownBy w' none := by
  have HA := Lib.hid h; clear h
  have HT := Lib.hid ht; clear ht
  go_enter Tryd.func5, Tryd.ntmps5
  go_wp2_with fail
  refine (head_says w HT.out).mono ?_
  rintro e w1 ⟨rfl, g1⟩
  have HG1 := Lib.hid g1; clear g1
  go_wp2_with fail
  refine (few_any (HA.out.go HG1.out) 100).mono ?_
  rintro e w2 ⟨rfl, g2⟩
  have HG2 := Lib.hid (HG1.out.trans g2); clear g2
  cases hf : fewB 100 l with
  | false =>
    clear hf
    go_wp2_with fail
    go_ret
    exact ⟨rfl, HG2.out⟩
  | true =>
    have HF := Lib.hid hf; clear hf
    by_cases hn0 : n = 0
    · have d0 : ((n : Int) == 0) = true := by simpa using hn0
      clear hn0
      go_wp2_with fail
      go_ret
      exact ⟨rfl, HG2.out⟩
    have d0 : ((n : Int) == 0) = false := by simpa using hn0
    have HNE : Hid (l ≠ []) := Lib.hid (by rintro rfl; exact hn0 HA.out.len.symm)
    clear hn0
    go_wp2_with fail
    refine (valid_any (HA.out.go HG2.out) (v : Int)).mono ?_
    rintro e w3 ⟨rfl, g3⟩
    have HG3 := Lib.hid (HG2.out.trans g3); clear g3
    cases hw : validB (v : Int) l with
    | false =>
      clear hw
      go_wp2_with fail
      go_ret
      exact ⟨rfl, HG3.out⟩
    | true =>
      have HGD := Lib.hid (validB_good hw); clear hw
      have HSZ := Lib.hid (enc_small HF.out (by omega) HGD.out)
      go_wp2_with fail
      refine (encode_any (HA.out.go HG3.out) HGD.out (by have := HSZ.out; omega) (HT.out.grown HG3.out)).mono ?_
      rintro e w4 ⟨rfl, g4⟩
      have HG4 := Lib.hid (HG3.out.trans g4); clear g4
      obtain ⟨S, hS⟩ : ∃ S : ByteArray, ⟨(enc l).toArray⟩ = S := ⟨_, rfl⟩
      have HSS : Hid (S.data.toList = enc l) := Lib.hid (by rw [← hS])
      have hs1 : S.size ≤ 140000 := by rw [← hS, size_list]; exact HSZ.out
      have hs0 : 0 < S.size := by
        rw [← hS, size_list]
        cases hl : enc l with
        | nil => have := enc_last HNE.out; rw [hl] at this; cases this
        | cons x t => simp
      rw [hS]; clear hS
      have hsz0 : ((S.size : Int) == 0) = false := beq_eq_false_iff_ne.2 (by omega)
      obtain ⟨P1, hP1⟩ : ∃ P1, S.extract 0 (S.size - 1) = P1 := ⟨_, rfl⟩
      have HP1 : Hid (P1.data.toList = (enc l).dropLast ∧ P1.size ≤ 2000000) := Lib.hid (by
        have e : P1.data.toList = (enc l).dropLast := by
          rw [← hP1, Lib.extract_data, HSS.out, List.drop_zero, List.dropLast_eq_take, Nat.sub_zero, ← HSS.out, Array.length_toList]; rfl
        refine ⟨e, ?_⟩
        have : P1.size = (enc l).dropLast.length := by rw [← e, Array.length_toList]; rfl
        rw [this, List.length_dropLast]; have := HSZ.out; omega)
      have r1 : ∀ W : World, (Instr.slice 9 (.string S) none (some (.int .i64 ((S.size : Int) - 1))) none).run Tryd.prog W = .ok (.string P1) W := fun W => by
        rw [run_slice_string_h (P := Tryd.prog) W 9 S Tryd.underlying9 .i64 _ (by omega) (by omega), ← hP1, show ((S.size : Int) - 1).toNat = S.size - 1 by omega]
      clear hP1
      go_wp2_with fail
      have hd := decode_calls P1 w4 HP1.out.2
      rw [HP1.out.1, dec_cut HNE.out HGD.out] at hd
      refine hd.mono ?_
      clear hd
      rintro e w5 ⟨g5, rfl⟩
      have HG5 := Lib.hid (HG4.out.trans g5); clear g5 r1
      obtain ⟨K, hK⟩ : ∃ K : Nat, (t : Int) % (S.size : Int) = (K : Int) ∧ K < S.size := ⟨t % S.size, by simp, Nat.mod_lt _ hs0⟩
      have hKe := hK.1
      have hKn := hK.2
      clear hK
      have hz : ¬ ((S.size : Int) = 0) := by omega
      go_wp2_with fail
      rw [hKe]
      clear hKe hz
      go_loopg [11] (S.size - K) (fun g s11 wr => ∃ i : Nat, s11 = .int .i64 (i : Int) ∧ g = S.size - i ∧ i < S.size ∧ w5 = wr)
      case atStart => exact ⟨K, rfl, rfl, hKn, rfl⟩
      case round =>
        obtain ⟨i, rfl, hgi, hi, rfl⟩ := hrel
        have HGI := Lib.hid hgi; clear hgi hKn
        have hiI : (i : Int) < (S.size : Int) := by omega
        by_cases hgo : i + 1 < S.size ∧ S[i] ≠ 32 ∧ S[i] ≠ 10
        · obtain ⟨g1, g2, g3⟩ := hgo
          have e1 : decide ((i : Int) < (S.size : Int) - 1) = true := by simp; omega
          have e2 : ((S[i].toNat : Int) != 32) = true := by
            rw [bne_iff_ne]; intro e; exact g2 (UInt8.toNat_inj.1 (by show S[i].toNat = 32; omega))
          have e3 : ((S[i].toNat : Int) != 10) = true := by
            rw [bne_iff_ne]; intro e; exact g3 (UInt8.toNat_inj.1 (by show S[i].toNat = 10; omega))
          clear g2 g3
          go_wp2_with fail
          go_roundg (S.size - (i + 1))
          case measure => rw [HGI.out]; omega
          case rel => exact ⟨i + 1, rfl, rfl, g1, rfl⟩
        · have HC : Hid (S[i] = 32 ∨ S[i] = 10) := Lib.hid (by
            by_cases g1 : i + 1 < S.size
            · by_cases g2 : S[i] = 32
              · exact .inl g2
              · by_cases g3 : S[i] = 10
                · exact .inr g3
                · exact absurd ⟨g1, g2, g3⟩ hgo
            · have := last_nl HSS.out HNE.out (by omega)
              have e : i = S.size - 1 := by omega
              subst e
              exact .inr this)
          have hways : decide ((i : Int) < (S.size : Int) - 1) = false ∨ (decide ((i : Int) < (S.size : Int) - 1) = true ∧ ((S[i].toNat : Int) != 32) = false) ∨ (decide ((i : Int) < (S.size : Int) - 1) = true ∧ ((S[i].toNat : Int) != 32) = true ∧ ((S[i].toNat : Int) != 10) = false) := by
            by_cases g1 : i + 1 < S.size
            · have e1 : decide ((i : Int) < (S.size : Int) - 1) = true := by simp; omega
              rcases HC.out with h | h
              · exact .inr (.inl ⟨e1, by rw [h]; rfl⟩)
              · exact .inr (.inr ⟨e1, by rw [h]; rfl, by rw [h]; rfl⟩)
            · exact .inl (by simp; omega)
          clear hgo
          obtain ⟨A, hA⟩ : ∃ A, S.extract 0 i = A := ⟨_, rfl⟩
          obtain ⟨B, hB⟩ : ∃ B, S.extract i (i + 1) = B := ⟨_, rfl⟩
          obtain ⟨C, hC⟩ : ∃ C, S.extract i S.size = C := ⟨_, rfl⟩
          obtain ⟨AB, hAB⟩ : ∃ AB, A ++ B = AB := ⟨_, rfl⟩
          obtain ⟨Q, hQ⟩ : ∃ Q, AB ++ C = Q := ⟨_, rfl⟩
          have HAl : Hid (A.data.toList = S.data.toList.take i ∧ B.data.toList = [S[i]] ∧ C.data.toList = S.data.toList.drop i) := Lib.hid ⟨by rw [← hA, Lib.extract_data]; simp, by
            rw [← hB, Lib.extract_data, List.drop_eq_getElem_cons (by simpa using hi), show i + 1 - i = 0 + 1 by omega, List.take_succ_cons, List.take_zero]; rfl, by rw [← hC, Lib.extract_to_end]⟩
          have HAs : Hid (A.size = i ∧ B.size = 1 ∧ C.size = S.size - i) := Lib.hid ⟨by rw [← hA, ByteArray.size_extract]; omega, by rw [← hB, ByteArray.size_extract]; omega, by rw [← hC, ByteArray.size_extract]; omega⟩
          have HQs : Hid (Q.data.toList = S.data.toList.take i ++ (S[i] :: S.data.toList.drop i) ∧ Q.size ≤ 2000000) := Lib.hid ⟨by
            rw [← hQ, ← hAB, ByteArray.data_append, ByteArray.data_append, Array.toList_append, Array.toList_append, HAl.out.1, HAl.out.2.1, HAl.out.2.2]; simp, by
            rw [← hQ, ← hAB, ByteArray.size_append, ByteArray.size_append, HAs.out.1, HAs.out.2.1, HAs.out.2.2]; omega⟩
          have r1 : ∀ W : World, (Instr.slice 9 (.string S) none (some (.int .i64 (i : Int))) none).run Tryd.prog W = .ok (.string A) W := fun W => by
            rw [run_slice_string_h (P := Tryd.prog) W 9 S Tryd.underlying9 .i64 _ (by omega) (by omega), ← hA]; rfl
          have r2 : ∀ W : World, (Instr.slice 9 (.string S) (some (.int .i64 (i : Int))) (some (.int .i64 ((i : Int) + 1))) none).run Tryd.prog W = .ok (.string B) W := fun W => by
            rw [run_slice_string (P := Tryd.prog) W 9 S .i64 .i64 _ _ Tryd.underlying9 (by omega) (by omega) (by omega), ← hB]; rfl
          have r3 : ∀ W : World, (Instr.slice 9 (.string S) (some (.int .i64 (i : Int))) none none).run Tryd.prog W = .ok (.string C) W := fun W => by
            rw [run_slice_string_l (P := Tryd.prog) W 9 S Tryd.underlying9 .i64 _ (by omega) (by omega), ← hC]; rfl
          have r4 : ∀ W : World, (Op.stringOp .add A B).run Tryd.prog W = .ok (.string AB) W := fun W => by rw [← hAB]; exact run_string_add_sum _ _ _ (by rw [HAs.out.1, HAs.out.2.1]; omega)
          have r5 : ∀ W : World, (Op.stringOp .add AB C).run Tryd.prog W = .ok (.string Q) W := fun W => by rw [← hQ]; exact run_string_add_sum _ _ _ (by rw [← hAB, ByteArray.size_append, HAs.out.1, HAs.out.2.1, HAs.out.2.2]; omega)
          have w1' : IntKind.i64.wrap ((i : Int) + 1) = (i : Int) + 1 := IntWalk.i64_in _ (by omega)
          have HDD : Hid (∀ W, w5.grownBy W none → Calls Tryd.prog 13 #[.string Q] W fun e w' => e = .returned (.tuple #[.slice none 0 0, .int .i64 340]) ∧ W.grownBy w' none) := Lib.hid (fun W _ => by
            have hd := decode_calls Q W HQs.out.2
            rw [HQs.out.1, text_doubled hi HC.out] at hd
            exact hd.mono fun e w' h => ⟨h.2, h.1⟩)
          clear hA hB hC hAB hQ
          rcases hways with e1 | ⟨e1, e2⟩ | ⟨e1, e2, e3⟩
          all_goals
            go_wp2_with fail
            go_region_held3 (fun W => w5.grownBy W none)
              (first | exact ⟨rfl, rfl, rfl, Nat.le_refl _, fun _ _ _ => rfl⟩ | (go_split_ands; exact World.grownBy.trans (by assumption) g3) | fail)
              (first | (go_at_call 13; (with_reducible refine (HDD.out _ ?_).mono ?_); (go_split_ands; assumption); rintro e w6 ⟨rfl, g3⟩) | fail)
            have h6 : w5.grownBy w6 none := by go_split_ands; assumption
            have HG6 := Lib.hid (HG5.out.trans h6)
            clear h6 r1 r2 r3 r4 r5 w1'
            go_wp2_with fail
            go_ret
            exact ⟨rfl, HG6.out⟩
end Go.Proofs.YtgeidnfigncepaaDoor
