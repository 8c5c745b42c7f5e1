/- The law UniverseRanks, walked whole. -/
import Derived.Test.YtagfkapgjdaiaaaDoorX
import Derived.Test.YtagfkapgjdaiaaaDoorH
namespace Go.Proofs.YtagfkapgjdaiaaaDoor
open Go.RowKit

theorem Ints.at {w : World} {a : Option Addr} {c : Nat} {zs : List Int} (h : Ints w a c zs) {i : Nat} {z : Int} (hz : zs[i]? = some z) : ∃ b o, a = some ⟨b, o, none⟩ ∧ w.cell? ⟨b, o + i, none⟩ = some (.int .i64 z) := by
  obtain ⟨_, ⟨h, _⟩ | ⟨b, o, ha, _, hc⟩⟩ := h
  · rw [h] at hz; simp at hz
  · exact ⟨b, o, ha, hc i z hz⟩
theorem pow_le {N K : Nat} (hN : N ≤ 12) (hK : K ≤ 3) : N ^ K ≤ 1728 := by
  have h1 : N ^ K ≤ 12 ^ K := Nat.pow_le_pow_left hN _
  have h2 : 12 ^ K ≤ 12 ^ 3 := Nat.pow_le_pow_right (by omega) hK
  omega

set_option maxRecDepth 100000 in
set_option maxHeartbeats 4000000 in
theorem ranksLaw_calls (hh : HeadSays) (raw : List Nat) (ra : Option Addr) (rc ar rk : Nat) (w : World) (h : Bytes w ra rc raw) (hl : (raw.length : Int) ≤ 9223372036854775807) (har : ar < 256) (hrk : rk < 65536) :
    Calls Tryd.prog 5 #[.slice ra raw.length rc, .int .u8 (ar : Int), .int .u16 (rk : Int)] w fun e w' => e = .returned (.bool true) ∧ w.grownBy w' none := by
  have HR := Lib.hid (And.intro h hl); clear h
  obtain ⟨K, hK⟩ : ∃ K, ar % 4 = K := ⟨_, rfl⟩
  have hKI : (ar : Int) % 4 = (K : Int) := by omega
  have hK3 : K ≤ 3 := by omega
  clear hK
  go_enter Tryd.func5, Tryd.ntmps5
  go_wp2_with fail
  refine (hh w).mono ?_
  rintro e w1 ⟨rfl, g1⟩
  go_wp2_with fail
  refine (scope_calls raw ra rc 0 w1 (HR.out.1.grown g1) HR.out.2 (by omega)).mono ?_
  rintro e w2 ⟨a, c, rfl, hnums, g2⟩
  have hb := sizes_bound raw 4 12
  obtain ⟨l, hle⟩ : ∃ l, scopeL raw = l := ⟨_, rfl⟩
  rw [show sizes raw 4 12 = l from hle] at hb
  rw [hle] at hnums ⊢
  clear hle hl
  have HSC := Lib.hid (ScV.start (T := 1) hnums (g1.trans g2))
  have HL : Hid ((∀ z ∈ l, z ≤ 5) ∧ l.length ≤ 4 ∧ sum l ≤ 12 ∧ ∀ z ∈ l, 1 ≤ z) := Lib.hid ⟨fun z hz => (hb.2.2 z hz).2, hb.1, hb.2.1, fun z hz => (hb.2.2 z hz).1⟩
  clear hnums g1 g2 hb
  go_wp2_with fail
  obtain ⟨g, hg⟩ : ∃ g, w2.heap.size = g := ⟨_, rfl⟩
  rw [hg] at HSC ⊢
  have hw3 : Hid (ScV w (w2.alloc (.cells #[.slice a l.length c, .int .i64 1] 30)) g a c 1 l) := HSC
  obtain ⟨w3, hw⟩ : ∃ w3, w2.alloc (.cells #[.slice a l.length c, .int .i64 1] 30) = w3 := ⟨_, rfl⟩
  rw [hw] at hw3 ⊢
  clear hw hg HSC
  have HSC := hw3; clear hw3
  obtain ⟨N, hN⟩ : ∃ N, sum l = N := ⟨_, rfl⟩
  have hN12 : N ≤ 12 := by have := HL.out.2.2.1; omega
  have HN := Lib.hid hN; clear hN
  obtain ⟨n, hn⟩ : ∃ n, l.length = n := ⟨_, rfl⟩
  have hn4 : n ≤ 4 := by have := HL.out.2.1; omega
  have HLN := Lib.hid hn; clear hn
  refine (atoms_calls l a c 1 w3 HSC.out.nums HL.out.1 HL.out.2.1).mono ?_
  rintro e w4 ⟨rfl, g4⟩
  rw [HN.out]
  have HS4 := Lib.hid (HSC.out.go g4); clear g4 HSC
  obtain ⟨c0, c1, _, _⟩ := HS4.out
  rw [HLN.out] at c0
  go_wp2_with fail
  go_loopg [11, 12] K (fun gk s11 s12 wr => ∃ i : Nat, s12 = .int .i64 (i : Int) ∧ s11 = .int .i64 ((N ^ i : Nat) : Int) ∧ gk = K - i ∧ i ≤ K ∧ wr = w4)
  case atStart => exact ⟨0, rfl, rfl, rfl, Nat.zero_le _, rfl⟩
  case round =>
    obtain ⟨i, rfl, rfl, hgi, hi, rfl⟩ := hrel
    have HGI := Lib.hid hgi; clear hgi
    by_cases hiK : i < K
    · have hiB : decide (i < K) = true := by simpa using hiK
      have hP := pow_le (N := N) (K := i + 1) hN12 (by omega)
      rw [Nat.pow_succ] at hP
      have HPS : Hid (N ^ (i + 1) = N ^ i * N) := Lib.hid (Nat.pow_succ ..)
      obtain ⟨P, hPP⟩ : ∃ P, N ^ i = P := ⟨_, rfl⟩
      rw [hPP] at hP HPS ⊢
      have hmul : (P : Int) * (N : Int) ≤ 1728 := by rw [← Int.natCast_mul]; omega
      have hmul0 : 0 ≤ (P : Int) * (N : Int) := Int.mul_nonneg (by omega) (by omega)
      clear hPP hP
      go_wp2_with fail
      go_roundg (K - (i + 1))
      case measure => rw [HGI.out]; omega
      case rel => exact ⟨i + 1, rfl, by rw [HPS.out]; simp, rfl, by omega, rfl⟩
    · have hie : i = K := by omega
      subst hie
      have hiB : decide (i < i) = false := by simp
      have hM := pow_le (N := N) (K := i) hN12 hK3
      obtain ⟨M, hMM⟩ : ∃ M, N ^ i = M := ⟨_, rfl⟩
      rw [hMM] at hM ⊢
      by_cases hM0 : M = 0
      · subst hM0
        have hN0 : N = 0 := by
          rcases Nat.eq_zero_or_pos N with h | h
          · exact h
          · have := Nat.pow_pos (n := i) h; omega
        subst hN0
        clear hMM
        go_wp2_with fail
        go_ret
        exact ⟨rfl, HS4.out.grown⟩
      have hNi : 1 ≤ N ∨ i = 0 := by
        by_cases h0 : i = 0
        · exact .inr h0
        · left
          rcases Nat.eq_zero_or_pos N with h | h
          · subst h; rw [Nat.zero_pow (by omega)] at hMM; omega
          · exact h
      have HM := Lib.hid hMM; clear hMM
      have d1 : decide ((M : Int) ≤ 0) = false := by simp; omega
      have d2 : decide ((2000 : Int) < (M : Int)) = false := by simp; omega
      obtain ⟨R, hR⟩ : ∃ R, rk % M = R := ⟨_, rfl⟩
      have hRM : R < M := by rw [← hR]; exact Nat.mod_lt _ (by omega)
      have hRI : (rk : Int) % (M : Int) = (R : Int) := by rw [← hR]; rfl
      have hMI : (0 : Int) < (M : Int) := by omega
      clear hR
      have HTU := Lib.hid (fun (W : World) (r : Int) (hr : -9223372036854775808 ≤ r ∧ r ≤ 9223372036854775807) (hW : ScV w W g a c 1 l) => by
        have hf := tuple_calls l a c 1 (i : Int) r W hW.nums HL.out.1 HL.out.2.1 hr
        rw [HLN.out, HN.out] at hf
        exact hf)
      have hNR : N ^ i = M := HM.out
      have HD := Lib.hid (And.intro (tupI_in (N := N) (r := R) hK3 hNi (by omega)) (And.intro (num_dig (N := N)) (And.intro (dig_lt (N := N)) hRM)))
      have HDL : Hid ((dig N i R).length = i) := Lib.hid (dig_length ..)
      have HTO : Hid (tupI N (i : Int) (M : Int) = []) := Lib.hid (tupI_out (by omega))
      have HTN : Hid (tupI N (i : Int) (-1) = []) := Lib.hid (tupI_neg (by omega))
      clear hNR
      go_wp2_with fail
      refine (HTU.out _ _ (by omega) HS4.out).mono ?_
      rintro e w5 ⟨ta, tc, rfl, ti, g5⟩
      rw [HD.out.1] at ti ⊢
      rw [List.length_map, HDL.out]
      have HS5 := Lib.hid (HS4.out.go g5); clear g5 HS4 c0 c1
      have HTI := Lib.hid ti; clear ti
      obtain ⟨c0, c1, _, _⟩ := HS5.out
      rw [HLN.out] at c0
      go_wp2_with fail
      have hrank : Hid (rankI N ((dig N i R).map Int.ofNat) = (R : Int)) := Lib.hid (by
        rw [rankI_in (by rw [HDL.out]; exact hK3) (fun d hd => by
          rcases hNi with h1 | h1
          · exact HD.out.2.2.1 h1 _ _ d hd
          · subst h1; simp [dig] at hd)]
        rcases hNi with h1 | h1
        · rw [num_dig h1 _ _ (by rw [HM.out]; exact HD.out.2.2.2)]
        · subst h1
          have := HM.out
          have := HD.out.2.2.2
          simp at *
          have : R = 0 := by omega
          subst this; rfl)
      have hf := rank_calls l a c 1 ((dig N i R).map Int.ofNat) ta tc w5 HS5.out.nums HL.out.1 HL.out.2.1 HTI.out (by rw [List.length_map, HDL.out]; omega)
      rw [List.length_map, HDL.out, HLN.out, HN.out, hrank.out] at hf
      refine hf.mono ?_
      clear hf hrank
      rintro e w6 ⟨rfl, g6⟩
      have HS6 := Lib.hid (HS5.out.go g6)
      have HTJ := Lib.hid (HTI.out.grown g6); clear g6 HS5 HTI c0 c1
      obtain ⟨c0, c1, _, _⟩ := HS6.out
      rw [HLN.out] at c0
      go_wp2_with fail
      refine (HTU.out _ _ (by omega) HS6.out).mono ?_
      rintro e w7 ⟨ub, uc, rfl, _, g7⟩
      rw [HTO.out]
      have HS7 := Lib.hid (HS6.out.go g7)
      have HTK := Lib.hid (HTJ.out.grown g7); clear g7 HS6 HTJ c0 c1
      obtain ⟨c0, c1, _, _⟩ := HS7.out
      rw [HLN.out] at c0
      go_wp2_with fail
      refine (HTU.out _ _ (by omega) HS7.out).mono ?_
      rintro e w8 ⟨vb, vc, rfl, _, g8⟩
      rw [HTN.out]
      have HS8 := Lib.hid (HS7.out.go g8)
      have HTL := Lib.hid (HTK.out.grown g8); clear g8 HS7 HTK c0 c1
      obtain ⟨c0, c1, _, _⟩ := HS8.out
      rw [HLN.out] at c0
      by_cases hlast : M ≤ R + 1
      · have dl : decide ((M : Int) ≤ (R : Int) + 1) = true := by simp; omega
        go_wp2_with fail
        go_ret
        exact ⟨rfl, HS8.out.grown⟩
      have dl : decide ((M : Int) ≤ (R : Int) + 1) = false := by simp; omega
      go_wp2_with fail
      have hN1 : 1 ≤ N := by
        rcases hNi with h1 | h1
        · exact h1
        · subst h1; have := HM.out; simp at this; omega
      have HD2 := Lib.hid (And.intro (tupI_in (N := N) (k := i) (r := R + 1) hK3 hNi (by rw [HM.out]; omega)) (And.intro (num_dig hN1 i (R + 1) (by rw [HM.out]; omega)) (And.intro (num_dig hN1 i R (by rw [HM.out]; omega)) (And.intro (dig_lt hN1 i R) (dig_lt hN1 i (R + 1))))))
      have HDL2 : Hid ((dig N i (R + 1)).length = i) := Lib.hid (dig_length ..)
      refine (HTU.out _ _ (by omega) HS8.out).mono ?_
      rintro e w9 ⟨va, vd, rfl, ti, g9⟩
      rw [show (R : Int) + 1 = ((R + 1 : Nat) : Int) from rfl, HD2.out.1] at ti ⊢
      rw [List.length_map, HDL2.out]
      have HS9 := Lib.hid (HS8.out.go g9)
      have HTM := Lib.hid (HTL.out.grown g9)
      have HUI := Lib.hid ti
      clear g9 HS8 HTL c0 c1 ti dl hlast d1 d2 hRI hKI hN1
      go_wp2_with fail
      go_loopg [16] i (fun gk s16 wr => ∃ j : Nat, s16 = .int .i64 (j : Int) ∧ gk = i - j ∧ j ≤ i ∧ (dig N i R).take j = (dig N i (R + 1)).take j ∧ Ints wr ta tc ((dig N i R).map Int.ofNat) ∧ Ints wr va vd ((dig N i (R + 1)).map Int.ofNat) ∧ w.grownBy wr none)
      case atStart => exact ⟨0, rfl, rfl, Nat.zero_le _, rfl, HTM.out, HUI.out, HS9.out.grown⟩
      case round =>
        obtain ⟨j, rfl, hgj, hj, htk, h1, h2, hgr⟩ := hrel
        have HJ := Lib.hid (And.intro hgj (And.intro htk (And.intro h1 (And.intro h2 hgr)))); clear hgj htk hgr
        by_cases hji : j < i
        · have hjB : decide (j < i) = true := by simpa using hji
          have hjI : (j : Int) < (i : Int) := by omega
          obtain ⟨x, hx⟩ : ∃ x, (dig N i R)[j]? = some x := ⟨_, List.getElem?_eq_getElem (by rw [HDL.out]; exact hji)⟩
          obtain ⟨y, hy⟩ : ∃ y, (dig N i (R + 1))[j]? = some y := ⟨_, List.getElem?_eq_getElem (by rw [HDL2.out]; exact hji)⟩
          obtain ⟨b1, o1, rfl, k1⟩ := h1.at (i := j) (z := (x : Int)) (by rw [List.getElem?_map, hx]; rfl)
          obtain ⟨b2, o2, rfl, k2⟩ := h2.at (i := j) (z := (y : Int)) (by rw [List.getElem?_map, hy]; rfl)
          have hxN := HD2.out.2.2.2.1 x (List.mem_of_getElem? hx)
          have hyN := HD2.out.2.2.2.2 y (List.mem_of_getElem? hy)
          have hlex := num_lex N i _ _ HDL.out HDL2.out HD2.out.2.2.2.1 HD2.out.2.2.2.2 (by rw [HD2.out.2.1, HD2.out.2.2.1]; omega) j x y hx hy HJ.out.2.1
          have HXY := Lib.hid (And.intro hx hy); clear hx hy h1 h2
          have e1 : decide ((x : Int) < 0) = false := by simp
          have e2 : decide ((y : Int) < 0) = false := by simp
          have e3 : decide (N ≤ x) = false := by simp; omega
          have e4 : decide (N ≤ y) = false := by simp; omega
          by_cases hxy : x = y
          · subst hxy
            clear hlex
            have e5 : ((x : Int) != (x : Int)) = false := by simp
            go_wp2_with fail
            go_quiet (fail)
            go_wp2_with fail
            go_roundg (i - (j + 1))
            case measure => rw [HJ.out.1]; omega
            case rel => exact ⟨j + 1, rfl, rfl, by omega, by rw [List.take_add_one, List.take_add_one, HJ.out.2.1, HXY.out.1, HXY.out.2], HJ.out.2.2.1.grown (grown_drewN _ _ _), HJ.out.2.2.2.1.grown (grown_drewN _ _ _), HJ.out.2.2.2.2.trans (grown_drewN _ _ _)⟩
          · have hlt := hlex hxy
            have e5 : ((x : Int) != (y : Int)) = true := by simp; omega
            have e6 : decide (x < y) = true := by simpa using hlt
            clear hlex
            go_wp2_with fail
            go_quiet (fail)
            go_wp2_with fail
            go_quiet (fail)
            go_wp2_with fail
            go_ret
            refine ⟨rfl, HJ.out.2.2.2.2.trans ?_⟩
            exact ⟨rfl, rfl, rfl, Nat.le_refl _, fun _ _ _ => rfl⟩
        · have hje : j = i := by omega
          subst hje
          exfalso
          have h3 := HJ.out.2.1
          rw [List.take_of_length_le (by rw [HDL.out]; exact Nat.le_refl _), List.take_of_length_le (by rw [HDL2.out]; exact Nat.le_refl _)] at h3
          have h4 := HD2.out.2.1
          rw [← h3, HD2.out.2.2.1] at h4
          omega
end Go.Proofs.YtagfkapgjdaiaaaDoor
