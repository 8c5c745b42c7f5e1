/- The law UniverseNames, walked whole. -/
import Derived.Test.YtagfkapgjdaiaaaDoorAi
import Derived.Test.YtagfkapgjdaiaaaDoorAj
import Derived.Test.YtagfkapgjdaiaaaDoorU
import Derived.Test.YtagfkapgjdaiaaaDoorY
namespace Go.Proofs.YtagfkapgjdaiaaaDoor
open Go.RowKit

set_option maxRecDepth 100000 in
set_option maxHeartbeats 8000000 in
theorem namesLaw_calls (hh : HeadSays) (ss : List ByteArray) (sa : Option Addr) (sc : Nat) (a2 : Option Addr) (n2 c2 : Nat) (a3 : Option Addr) (n3 c3 : Nat) (a4 : Option Addr) (n4 c4 : Nat) (raw : List Nat) (ra : Option Addr) (rc ya yb : Nat) (w : World)
    (hs : Named w sa ss) (hsl : (ss.length : Int) ≤ 9223372036854775807) (h : Bytes w ra rc raw) (hl : (raw.length : Int) ≤ 9223372036854775807) (hya : ya < 256) (hyb : yb < 256) :
    Calls Tryd.prog 8 #[.agg #[.slice sa ss.length sc, .slice a2 n2 c2, .slice a3 n3 c3, .slice a4 n4 c4], .slice ra raw.length rc, .int .u8 (ya : Int), .int .u8 (yb : Int)] w fun e w' => e = .returned (.bool true) ∧ w.grownBy w' none := by
  have HR := Lib.hid (And.intro h (And.intro hl hs)); clear h hs
  obtain ⟨n, hn⟩ : ∃ n, ss.length = n := ⟨_, rfl⟩
  rw [hn] at hsl ⊢
  have HN := Lib.hid hn; clear hn
  have hg0 := World.grownBy_alloc w (.cells #[.slice sa n sc, .slice a2 n2 c2, .slice a3 n3 c3, .slice a4 n4 c4] 27) none
  have q0 : (w.alloc (.cells #[.slice sa n sc, .slice a2 n2 c2, .slice a3 n3 c3, .slice a4 n4 c4] 27)).cell? ⟨w.heap.size, 0, none⟩ = some (.slice sa n sc) := by go_simp
  have q1 : (w.alloc (.cells #[.slice sa n sc, .slice a2 n2 c2, .slice a3 n3 c3, .slice a4 n4 c4] 27)).cell? ⟨w.heap.size, 1, none⟩ = some (.slice a2 n2 c2) := by go_simp
  have q2 : (w.alloc (.cells #[.slice sa n sc, .slice a2 n2 c2, .slice a3 n3 c3, .slice a4 n4 c4] 27)).cell? ⟨w.heap.size, 2, none⟩ = some (.slice a3 n3 c3) := by go_simp
  have q3 : (w.alloc (.cells #[.slice sa n sc, .slice a2 n2 c2, .slice a3 n3 c3, .slice a4 n4 c4] 27)).cell? ⟨w.heap.size, 3, none⟩ = some (.slice a4 n4 c4) := by go_simp
  have HQ := Lib.hid (And.intro hg0 (And.intro q0 (And.intro q1 (And.intro q2 q3)))); clear hg0 q0 q1 q2 q3
  go_enter Tryd.func8, Tryd.ntmps8
  go_wp2_with fail
  obtain ⟨b, hb⟩ : ∃ b, w.heap.size = b := ⟨_, rfl⟩
  obtain ⟨w0, hw0⟩ : ∃ w0, w.alloc (.cells #[.slice sa n sc, .slice a2 n2 c2, .slice a3 n3 c3, .slice a4 n4 c4] 27) = w0 := ⟨_, rfl⟩
  rw [hw0] at HQ ⊢
  rw [hb] at HQ ⊢
  clear hw0 hb
  refine (hh w0).mono ?_
  rintro e w1 ⟨rfl, g1⟩
  go_wp2_with fail
  refine (scope_calls raw ra rc 0 w1 (HR.out.1.grown (HQ.out.1.trans g1)) HR.out.2.1 (by omega)).mono ?_
  rintro e w2 ⟨a, c, rfl, hnums, g2⟩
  have hb := sizes_bound raw 4 12
  obtain ⟨l, hle⟩ : ∃ l, scopeL raw = l := ⟨_, rfl⟩
  rw [show sizes raw 4 12 = l from hle] at hb
  rw [hle] at hnums ⊢
  clear hle hl
  have HSC := Lib.hid (And.intro (ScV.start (T := 1) hnums ((HQ.out.1.trans g1).trans g2)) ((g1.trans g2).trans (World.grownBy_alloc w2 (.cells #[.slice a l.length c, .int .i64 1] 30) none)))
  have HL : Hid ((∀ z ∈ l, z ≤ 5) ∧ l.length ≤ 4 ∧ sum l ≤ 12 ∧ ∀ z ∈ l, 1 ≤ z) := Lib.hid ⟨fun z hz => (hb.2.2 z hz).2, hb.1, hb.2.1, fun z hz => (hb.2.2 z hz).1⟩
  obtain ⟨N, hN⟩ : ∃ N, sum l = N := ⟨_, rfl⟩
  have hN12 : N ≤ 12 := by have := HL.out.2.2.1; omega
  have HNN := Lib.hid hN; clear hN
  obtain ⟨k, hk⟩ : ∃ k, l.length = k := ⟨_, rfl⟩
  have hk4 : k ≤ 4 := by have := HL.out.2.1; omega
  have HLN := Lib.hid hk
  rw [hk] at HSC ⊢
  clear hk
  have HW2 : Hid ((w2.alloc (.cells #[.slice a k c, .int .i64 1] 30)).cell? ⟨b, 0, none⟩ = some (.slice sa n sc) ∧ (w2.alloc (.cells #[.slice a k c, .int .i64 1] 30)).cell? ⟨b, 1, none⟩ = some (.slice a2 n2 c2) ∧ (w2.alloc (.cells #[.slice a k c, .int .i64 1] 30)).cell? ⟨b, 2, none⟩ = some (.slice a3 n3 c3) ∧ (w2.alloc (.cells #[.slice a k c, .int .i64 1] 30)).cell? ⟨b, 3, none⟩ = some (.slice a4 n4 c4)) :=
    Lib.hid ⟨HSC.out.2.cell HQ.out.2.1 (by simp), HSC.out.2.cell HQ.out.2.2.1 (by simp), HSC.out.2.cell HQ.out.2.2.2.1 (by simp), HSC.out.2.cell HQ.out.2.2.2.2 (by simp)⟩
  clear hnums g1 g2 hb
  obtain ⟨p0, p1, p2, p3⟩ := HW2.out
  go_wp2_with fail
  clear p0 p1 p2 p3
  obtain ⟨g, hg⟩ : ∃ g, w2.heap.size = g := ⟨_, rfl⟩
  rw [hg] at HSC ⊢
  have HSX : Hid (ScV w (w2.alloc (.cells #[.slice a k c, .int .i64 1] 30)) g a c 1 l ∧ w0.grownBy (w2.alloc (.cells #[.slice a k c, .int .i64 1] 30)) none) := HSC
  clear HSC
  have HSC := HSX; clear HSX
  obtain ⟨w3, hw⟩ : ∃ w3, w2.alloc (.cells #[.slice a k c, .int .i64 1] 30) = w3 := ⟨_, rfl⟩
  rw [hw] at HSC HW2 ⊢
  clear hw hg
  have HFA := Lib.hid (fun (W : World) (hW : w3.grownBy W none) => by
    have hs1 := HSC.out.1.go hW
    have h0 := hs1.c0
    rw [HLN.out] at h0
    exact And.intro (hW.cell HW2.out.1 (by simp)) (And.intro (hW.cell HW2.out.2.1 (by simp)) (And.intro (hW.cell HW2.out.2.2.1 (by simp)) (And.intro (hW.cell HW2.out.2.2.2 (by simp)) (And.intro h0 (And.intro hs1.c1 (And.intro hs1 (HR.out.2.2.grown hs1.grown))))))))
  have HC1 := Lib.hid (show Calls Tryd.prog 10 #[.agg #[.slice sa n sc, .slice a2 n2 c2, .slice a3 n3 c3, .slice a4 n4 c4]] w3 (fun e w' => e = .returned (.bool (great ss)) ∧ w3.grownBy w' none) from by
    have hf := great_calls ss sa sc a2 a3 a4 n2 c2 n3 c3 n4 c4 w3 (HFA.out w3 (grown_refl _ _)).2.2.2.2.2.2.2 (by rw [HN.out]; exact hsl)
    rw [HN.out] at hf
    exact hf)
  refine HC1.out.mono ?_
  clear HC1
  rintro e w4 ⟨rfl, g4⟩
  have HG4 := Lib.hid g4; clear g4
  by_cases hgr : great ss = true
  · go_wp2_with fail
    go_ret
    exact ⟨rfl, HSC.out.1.grown.trans HG4.out⟩
  have hgr2 : great ss = false := by simpa using hgr
  have HGR := Lib.hid (great_no hgr2)
  have hn20 : n ≤ 20 := by rw [← HN.out]; exact HGR.out.1
  rw [hgr2]
  clear hgr hgr2
  obtain ⟨p0, p1, p2, p3, c0, c1, _, _⟩ := HFA.out _ HG4.out
  go_wp2_with fail
  clear p0 p1 p2 p3 c0 c1
  have HC2 := Lib.hid (show Calls Tryd.prog 11 #[.agg #[.slice sa n sc, .slice a2 n2 c2, .slice a3 n3 c3, .slice a4 n4 c4], .agg #[.slice a k c, .int .i64 1]] w4 (fun e w' => e = .returned (.bool (validI n (ints l) 1)) ∧ w4.grownBy w' none) from by
    have hf := valid_calls sa n sc a2 a3 a4 n2 c2 n3 c3 n4 c4 (ints l) a c 1 w4 ((HFA.out _ HG4.out).2.2.2.2.2.2.1.nums.ints) (by omega) (by rw [List.length_map]; have := HL.out.2.1; omega)
    rw [List.length_map, HLN.out] at hf
    exact hf)
  refine HC2.out.mono ?_
  clear HC2
  rintro e w5 ⟨rfl, g5⟩
  have HG5 := Lib.hid (HG4.out.trans g5); clear g5
  by_cases hva2 : validI n (ints l) 1 = false
  · rw [hva2]
    clear hva2
    go_wp2_with fail
    go_ret
    exact ⟨rfl, HSC.out.1.grown.trans HG5.out⟩
  have hva : validI n (ints l) 1 = true := by simpa using hva2
  clear hva2
  have hnk : n = k := by
    simp [validI] at hva
    have := HLN.out
    omega
  rw [hva]
  clear hva
  subst hnk
  obtain ⟨p0, p1, p2, p3, c0, c1, _, _⟩ := HFA.out _ HG5.out
  go_wp2_with fail
  clear p0 p1 p2 p3 c0 c1
  have HC3 := Lib.hid (show Calls Tryd.prog 18 #[.agg #[.slice a n c, .int .i64 1]] w5 (fun e w' => e = .returned (.int .i64 (N : Int)) ∧ w5.grownBy w' none) from by
    have hf := atoms_calls l a c 1 w5 ((HFA.out _ HG5.out).2.2.2.2.2.2.1.nums) HL.out.1 HL.out.2.1
    rw [HLN.out, HNN.out] at hf
    exact hf)
  refine HC3.out.mono ?_
  clear HC3
  rintro e w6 ⟨rfl, g6⟩
  have HG6 := Lib.hid (HG5.out.trans g6); clear g6
  by_cases hN0 : N = 0
  · have d0 : decide ((N : Int) < 1) = true := by simp; omega
    go_wp2_with fail
    go_ret
    exact ⟨rfl, HSC.out.1.grown.trans HG6.out⟩
  have hN1 : 1 ≤ N := by omega
  have d0 : decide ((N : Int) < 1) = false := by simp; omega
  clear hN0
  go_wp2_with fail
  clear d0
  go_loopg [11] n (fun gk s11 wx => ∃ i : Nat, s11 = .int .i64 (i : Int) ∧ gk = n - i ∧ i ≤ n ∧ (∀ s ∈ ss.take i, plainName s) ∧ (∀ (j k : Nat) (p q : ByteArray), j < k → k < i → ss[j]? = some p → ss[k]? = some q → p ≠ q) ∧ w3.grownBy wx none)
  case atStart => exact ⟨0, rfl, rfl, Nat.zero_le _, fun s hs => by simp at hs, fun j k p q h1 h2 => by omega, HG6.out⟩
  case round =>
    obtain ⟨i, rfl, hgi, hin, hpl, hdi, hgr⟩ := hrel
    have HI := Lib.hid (And.intro hgi (And.intro hpl (And.intro hdi hgr))); clear hgi hpl hdi hgr
    obtain ⟨p0, p1, p2, p3, c0, c1, _, hnm⟩ := HFA.out _ HI.out.2.2.2
    have HNM := Lib.hid hnm; clear hnm
    by_cases hi : i < n
    · have hiB : decide (i < n) = true := by simpa using hi
      have hiI : (i : Int) < (n : Int) := by omega
      obtain ⟨s, hs⟩ : ∃ s, ss[i]? = some s := ⟨_, List.getElem?_eq_getElem (by rw [HN.out]; exact hi)⟩
      obtain ⟨nb, no, rfl, cs⟩ := HNM.out i s hs
      have HS := Lib.hid hs; clear hs
      have hs100 := HGR.out.2 s (List.mem_of_getElem? HS.out)
      go_wp2_with fail
      go_loopg [12] s.size (fun gk s12 wx => ∃ k : Nat, s12 = .int .i64 (k : Int) ∧ gk = s.size - k ∧ k ≤ s.size ∧ wx = wr ∧ (∀ b ∈ s.data.toList.take k, b ≠ 36))
      case atStart => exact ⟨0, rfl, rfl, Nat.zero_le _, rfl, fun b hb => by simp at hb⟩
      case round =>
        obtain ⟨k, rfl, hgk, hks, rfl, hno⟩ := hrel
        have HK := Lib.hid (And.intro hgk hno); clear hgk hno
        by_cases hk : k < s.size
        · have hkB : decide (k < s.size) = true := by simpa using hk
          by_cases h36 : s[k] = 36
          · have e36 : ((s[k].toNat : Int) == 36) = true := by rw [h36]; rfl
            go_wp2_with fail
            go_ret
            exact ⟨rfl, HSC.out.1.grown.trans HI.out.2.2.2⟩
          · have e36 : ((s[k].toNat : Int) == 36) = false := by
              simp only [beq_eq_false_iff_ne, ne_eq]
              intro h
              exact h36 (UInt8.toNat_inj.1 (by rw [show (36 : UInt8).toNat = 36 from rfl]; omega))
            have H36 := Lib.hid h36; clear h36
            go_wp2_with fail
            go_roundg (s.size - (k + 1))
            case measure => rw [HK.out.1]; omega
            case rel => exact ⟨k + 1, rfl, rfl, by omega, rfl, fun b hb => by
              rw [List.take_add_one, List.getElem?_eq_getElem (by simpa using hk), Option.toList_some, List.mem_append] at hb
              rcases hb with hb | hb
              · exact HK.out.2 b hb
              · simp at hb; subst hb; exact H36.out⟩
        · have hke : k = s.size := by omega
          have HP : Hid (plainName s) := Lib.hid (fun b hb => HK.out.2 b (by rw [List.take_of_length_le (by rw [hke]; simp)]; exact hb))
          have hkB : decide (k < s.size) = false := by simpa using hk
          go_wp2_with fail
          go_loopg [13] i (fun gk s13 wx => ∃ j : Nat, s13 = .int .i64 (j : Int) ∧ gk = i - j ∧ j ≤ i ∧ (∀ (j' : Nat) (p : ByteArray), j' < j → ss[j']? = some p → p ≠ s) ∧ w3.grownBy wx none)
          case atStart => exact ⟨0, rfl, rfl, Nat.zero_le _, fun j' p h => by omega, HI.out.2.2.2⟩
          case round =>
            obtain ⟨j, rfl, hgj, hji, hdj, hgx⟩ := hrel
            have HJ := Lib.hid (And.intro hgj (And.intro hdj hgx)); clear hgj hdj hgx
            clear p0 p1 p2 p3 c0 c1 cs
            obtain ⟨p0, p1, p2, p3, c0, c1, _, hnm2⟩ := HFA.out _ HJ.out.2.2
            obtain ⟨nb1, no1, hn1, cs⟩ := hnm2 i s HS.out
            cases hn1
            by_cases hj : j < i
            · have hjB : decide (j < i) = true := by simpa using hj
              have hjI : (j : Int) < (n : Int) := by omega
              obtain ⟨r, hr⟩ : ∃ r, ss[j]? = some r := ⟨_, List.getElem?_eq_getElem (by rw [HN.out]; omega)⟩
              obtain ⟨nb1, no1, hn1, cr⟩ := hnm2 j r hr
              cases hn1
              have HRJ := Lib.hid hr; clear hr hnm2
              by_cases hrs : r = s
              · subst hrs
                go_wp2_with fail
                go_quiet (fail)
                go_wp2_with fail
                go_ret
                exact ⟨rfl, (HSC.out.1.grown.trans HJ.out.2.2).trans (grown_drewN _ _ _)⟩
              · have ers : (r.toList == s.toList) = false := ne_list hrs
                have HRS := Lib.hid hrs; clear hrs
                go_wp2_with fail
                go_quiet (fail)
                go_wp2_with fail
                go_roundg (i - (j + 1))
                case measure => rw [HJ.out.1]; omega
                case rel => exact ⟨j + 1, rfl, rfl, by omega, fun j' p h hp => by
                  by_cases hjj : j' < j
                  · exact HJ.out.2.1 j' p hjj hp
                  · have : j' = j := by omega
                    subst this
                    rw [HRJ.out] at hp
                    injection hp with hp
                    subst hp
                    exact HRS.out, HJ.out.2.2.trans (grown_drewN _ _ _)⟩
            · have hje : j = i := by omega
              subst hje
              have hjB : decide (j < j) = false := by simp
              clear hnm2
              go_wp2_with fail
              go_roundg (n - (j + 1))
              case measure => rw [HI.out.1]; omega
              case rel =>
                refine ⟨j + 1, rfl, rfl, by omega, fun t ht => ?_, fun j1 k1 p q h1 h2 hp hq => ?_, HJ.out.2.2⟩
                · rw [List.take_add_one, HS.out, Option.toList_some, List.mem_append] at ht
                  rcases ht with ht | ht
                  · exact HI.out.2.1 t ht
                  · simp at ht; subst ht; exact HP.out
                · by_cases hk1 : k1 < j
                  · exact HI.out.2.2.1 j1 k1 p q h1 hk1 hp hq
                  · have : k1 = j := by omega
                    subst this
                    rw [HS.out] at hq
                    injection hq with hq
                    subst hq
                    exact HJ.out.2.1 j1 p h1 hp
    · have hie : i = n := by omega
      subst hie
      have hiB : decide (i < i) = false := by simp
      have HPL : Hid (∀ s ∈ ss, plainName s) := Lib.hid (by
        have h1 := HI.out.2.1
        rw [List.take_of_length_le (by rw [HN.out]; exact Nat.le_refl _)] at h1
        exact h1)
      obtain ⟨X, hX⟩ : ∃ X, ya % N = X := ⟨_, rfl⟩
      have hXI : (ya : Int) % (N : Int) = (X : Int) := by rw [← hX]; rfl
      have hXN : X < N := by rw [← hX]; exact Nat.mod_lt _ hN1
      obtain ⟨Y, hY⟩ : ∃ Y, yb % N = Y := ⟨_, rfl⟩
      have hYI : (yb : Int) % (N : Int) = (Y : Int) := by rw [← hY]; rfl
      have hYN : Y < N := by rw [← hY]; exact Nat.mod_lt _ hN1
      have hNI : (0 : Int) < (N : Int) := by omega
      clear hX hY
      obtain ⟨s1, hs1, hs1l, hlo1, hhi1⟩ := sortI_in (l := l) (x := (X : Int)) (by omega) (by rw [HNN.out]; omega)
      obtain ⟨s2, hs2, hs2l, hlo2, hhi2⟩ := sortI_in (l := l) (x := (Y : Int)) (by omega) (by rw [HNN.out]; omega)
      rw [HLN.out] at hs1l hs2l
      obtain ⟨P1, hP1⟩ : ∃ p, ss[s1]? = some p := ⟨_, List.getElem?_eq_getElem (by rw [HN.out]; exact hs1l)⟩
      obtain ⟨P2, hP2⟩ : ∃ p, ss[s2]? = some p := ⟨_, List.getElem?_eq_getElem (by rw [HN.out]; exact hs2l)⟩
      have hP100 := HGR.out.2 P1 (List.mem_of_getElem? hP1)
      have hd1 : X - sum (l.take s1) < 10 := by
        have h1 := sum_take_succ (l := l) (List.getElem?_eq_getElem (i := s1) (by rw [HLN.out]; exact hs1l))
        have h2 := HL.out.1 _ (List.getElem_mem (l := l) (n := s1) (by rw [HLN.out]; exact hs1l))
        omega
      have hd2 : Y - sum (l.take s2) < 10 := by
        have h1 := sum_take_succ (l := l) (List.getElem?_eq_getElem (i := s2) (by rw [HLN.out]; exact hs2l))
        have h2 := HL.out.1 _ (List.getElem_mem (l := l) (n := s2) (by rw [HLN.out]; exact hs2l))
        omega
      obtain ⟨A, hA⟩ : ∃ A, nameOf P1 (X - sum (l.take s1)) = A := ⟨_, rfl⟩
      obtain ⟨C, hC⟩ : ∃ C, nameOf P2 (Y - sum (l.take s2)) = C := ⟨_, rfl⟩
      have HAC : Hid (A = C ↔ X = Y) := Lib.hid (by
        constructor
        · intro h
          rw [← hA, ← hC] at h
          obtain ⟨h1, h2⟩ := nameOf_inj (HPL.out P1 (List.mem_of_getElem? hP1)) (HPL.out P2 (List.mem_of_getElem? hP2)) hd1 hd2 h
          have h3 : s1 = s2 := by
            rcases Nat.lt_trichotomy s1 s2 with h4 | h4 | h4
            · exact absurd h1 (HI.out.2.2.1 s1 s2 P1 P2 h4 hs2l hP1 hP2)
            · exact h4
            · exact absurd h1.symm (HI.out.2.2.1 s2 s1 P2 P1 h4 hs1l hP2 hP1)
          subst h3
          omega
        · intro h
          subst h
          rw [hs1] at hs2
          have h3 : s1 = s2 := by omega
          subst h3
          rw [hP1] at hP2
          injection hP2 with hP2
          subst hP2
          rw [← hA, ← hC])
      have HAS : Hid (A.size = P1.size + 2 ∧ A.extract 0 (P1 ++ ⟨#[36]⟩).size = P1 ++ ⟨#[36]⟩) := Lib.hid ⟨by rw [← hA]; exact nameOf_size hd1, by rw [← hA]; exact nameOf_prefix _ _⟩
      have HNAM := Lib.hid (fun (W : World) (x : Int) (hW : w3.grownBy W none) => by
        have hq := HFA.out W hW
        have hf := name_calls ss sa sc a2 a3 a4 n2 c2 n3 c3 n4 c4 l a c 1 x W hq.2.2.2.2.2.2.2 (by rw [HN.out]; omega) (fun s hs => by have := HGR.out.2 s hs; omega) hq.2.2.2.2.2.2.1.nums HL.out.1 HL.out.2.1
        rw [HN.out, HLN.out] at hf
        exact hf)
      have HNX := Lib.hid (fun (W : World) (hW : w3.grownBy W none) => (HNAM.out W (X : Int) hW).mono (R' := fun e w' => e = .returned (.string A) ∧ W.grownBy w' none) (by
        rintro e w' ⟨⟨s, rfl, _, h2⟩, hg⟩
        exact ⟨by rw [h2 s1 P1 hs1 hP1, Int.toNat_natCast, ← hA]; rfl, hg⟩))
      have HNY := Lib.hid (fun (W : World) (hW : w3.grownBy W none) => (HNAM.out W (Y : Int) hW).mono (R' := fun e w' => e = .returned (.string C) ∧ W.grownBy w' none) (by
        rintro e w' ⟨⟨s, rfl, _, h2⟩, hg⟩
        exact ⟨by rw [h2 s2 P2 hs2 hP2, Int.toNat_natCast, ← hC]; rfl, hg⟩))
      have HNO := Lib.hid (fun (W : World) (x : Int) (hx : x < 0 ∨ (N : Int) ≤ x) (hW : w3.grownBy W none) => (HNAM.out W x hW).mono (R' := fun e w' => e = .returned (.string ⟨#[]⟩) ∧ W.grownBy w' none) (by
        rintro e w' ⟨⟨s, rfl, h1, _⟩, hg⟩
        exact ⟨by rw [h1 (.inl (by rw [sortI_out (by rw [HNN.out]; exact hx)]; omega))]; rfl, hg⟩))
      have HSO := Lib.hid (fun (W : World) (hW : w3.grownBy W none) => by
        have hf := sort_calls l a c 1 (X : Int) W (HFA.out W hW).2.2.2.2.2.2.1.nums HL.out.1 HL.out.2.1
        rw [HLN.out, hs1] at hf
        exact hf)
      have HAT := Lib.hid (fun (W : World) (hW : w3.grownBy W none) => by
        have hf := atoms_calls l a c 1 W (HFA.out W hW).2.2.2.2.2.2.1.nums HL.out.1 HL.out.2.1
        rw [HLN.out, HNN.out] at hf
        exact hf)
      have HP1 := Lib.hid hP1
      have hs1I : (s1 : Int) < (i : Int) := by omega
      have hsa : ∀ W : World, (Op.stringOp .add P1 ⟨#[36]⟩).run Tryd.prog W = .ok (.string (P1 ++ ⟨#[36]⟩)) W := fun W => run_string_add_sum _ _ _ (by show P1.size + 1 ≤ _; omega)
      clear hs1 hs2 hlo1 hhi1 hlo2 hhi2 hP1 hP2 hA hC hd1 hd2 HNAM
      have HGI := Lib.hid HI.out.2.2.2
      clear HI HNM
      go_wp2_with fail
      clear p0 p1 p2 p3 c0 c1
      refine (HAT.out _ HGI.out).mono ?_
      rintro e w7 ⟨rfl, g7⟩
      have HG7 := Lib.hid (HGI.out.trans g7); clear g7
      obtain ⟨p0, p1, p2, p3, c0, c1, _, hnm⟩ := HFA.out _ HG7.out
      clear hnm
      go_wp2_with fail
      clear p0 p1 p2 p3 c0 c1
      refine (HSO.out _ HG7.out).mono ?_
      rintro e w8 ⟨rfl, g8⟩
      have HG8 := Lib.hid (HG7.out.trans g8); clear g8
      obtain ⟨p0, p1, p2, p3, c0, c1, _, hnm⟩ := HFA.out _ HG8.out
      obtain ⟨nb, no, rfl, cs⟩ := hnm s1 P1 HP1.out
      clear hnm
      have es1 : decide (i ≤ s1) = false := by simp; omega
      go_wp2_with fail
      clear p0 p1 p2 p3 c0 c1 cs
      obtain ⟨pd, hpd⟩ : ∃ pd, P1 ++ (⟨#[36]⟩ : ByteArray) = pd := ⟨_, rfl⟩
      have hpds : pd.size = P1.size + 1 := by rw [← hpd]; exact dollar_size P1
      rw [hpd] at HAS ⊢
      have hex : ((A.extract 0 pd.size).toList == pd.toList) = true := by rw [HAS.out.2]; simp
      have hlt : decide (pd.size < A.size) = true := by rw [HAS.out.1, hpds]; simp
      have hleI : (pd.size : Int) ≤ (A.size : Int) := by rw [HAS.out.1, hpds]; omega
      have hAs : (A.size : Int) ≤ 200 := by rw [HAS.out.1]; omega
      clear hpd hpds hsa hXI hYI hs1I es1
      by_cases hXY : X = Y
      · subst hXY
        have hAC : A = C := HAC.out.2 rfl
        subst hAC
        refine (HNX.out _ HG8.out).mono ?_
        rintro e w9 ⟨rfl, g9⟩
        have HG9 := Lib.hid (HG8.out.trans g9); clear g9
        obtain ⟨p0, p1, p2, p3, c0, c1, _, hnm⟩ := HFA.out _ HG9.out
        clear hnm
        go_wp2_with fail
        clear p0 p1 p2 p3 c0 c1
        refine (HNY.out _ HG9.out).mono ?_
        rintro e w10 ⟨rfl, g9⟩
        have HG10 := Lib.hid (HG9.out.trans g9); clear g9
        obtain ⟨p0, p1, p2, p3, c0, c1, _, hnm⟩ := HFA.out _ HG10.out
        clear hnm
        go_wp2_with fail
        clear p0 p1 p2 p3 c0 c1
        refine (HNO.out _ _ (.inr (Int.le_refl _)) HG10.out).mono ?_
        rintro e w11 ⟨rfl, g9⟩
        have HG11 := Lib.hid (HG10.out.trans g9); clear g9
        obtain ⟨p0, p1, p2, p3, c0, c1, _, hnm⟩ := HFA.out _ HG11.out
        clear hnm
        go_wp2_with fail
        clear p0 p1 p2 p3 c0 c1
        refine (HNO.out _ _ (.inl (by omega)) HG11.out).mono ?_
        rintro e w12 ⟨rfl, g9⟩
        have HG12 := Lib.hid (HG11.out.trans g9); clear g9
        go_wp2_with fail
        go_ret
        exact ⟨rfl, HSC.out.1.grown.trans HG12.out⟩
      · have hne : A ≠ C := fun h => hXY (HAC.out.1 h)
        have hneL : (A.toList == C.toList) = false := ne_list hne
        have hXYB : ((X : Int) == (Y : Int)) = false := by simp; omega
        clear hne hXY
        refine (HNX.out _ HG8.out).mono ?_
        rintro e w9 ⟨rfl, g9⟩
        have HG9 := Lib.hid (HG8.out.trans g9); clear g9
        obtain ⟨p0, p1, p2, p3, c0, c1, _, hnm⟩ := HFA.out _ HG9.out
        clear hnm
        go_wp2_with fail
        clear p0 p1 p2 p3 c0 c1
        refine (HNY.out _ HG9.out).mono ?_
        rintro e w10 ⟨rfl, g9⟩
        have HG10 := Lib.hid (HG9.out.trans g9); clear g9
        obtain ⟨p0, p1, p2, p3, c0, c1, _, hnm⟩ := HFA.out _ HG10.out
        clear hnm
        go_wp2_with fail
        clear p0 p1 p2 p3 c0 c1
        refine (HNO.out _ _ (.inr (Int.le_refl _)) HG10.out).mono ?_
        rintro e w11 ⟨rfl, g9⟩
        have HG11 := Lib.hid (HG10.out.trans g9); clear g9
        obtain ⟨p0, p1, p2, p3, c0, c1, _, hnm⟩ := HFA.out _ HG11.out
        clear hnm
        go_wp2_with fail
        clear p0 p1 p2 p3 c0 c1
        refine (HNO.out _ _ (.inl (by omega)) HG11.out).mono ?_
        rintro e w12 ⟨rfl, g9⟩
        have HG12 := Lib.hid (HG11.out.trans g9); clear g9
        go_wp2_with fail
        go_ret
        exact ⟨rfl, HSC.out.1.grown.trans HG12.out⟩
end Go.Proofs.YtagfkapgjdaiaaaDoor
