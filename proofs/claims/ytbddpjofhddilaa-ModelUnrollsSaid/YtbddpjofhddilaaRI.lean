/- SameTrace. -/
import Derived.Test.YtbddpjofhddilaaRH
import Derived.Laws.EntriesVeiled
namespace Go.Proofs.Ytbddpjofhddilaa
open Go.RowKit

set_option maxRecDepth 100000 in
set_option maxHeartbeats 4000000 in
theorem sameTrace_calls (us us' : List Int) (sa sa' : Option Addr) (sc sc' : Nat) (st st' lp lp' : Int) (L L' : List (List Rl)) (ta ta' : Option Addr) (tc tc' : Nat) (w : World) (h : IntsW w sa sc us) (h' : IntsW w sa' sc' us') (hT : Sts w ta tc L) (hT' : Sts w ta' tc' L')
    (hl : (us.length : Int) ≤ 9223372036854775807) (hL : Lens L) (hlo : loopedB L.length lp = true) (hlo' : loopedB L'.length lp' = true) :
    Calls Try.prog 28 #[.agg #[.slice sa us.length sc, .int .i64 st, .slice ta L.length tc, .int .i64 lp], .agg #[.slice sa' us'.length sc', .int .i64 st', .slice ta' L'.length tc', .int .i64 lp']] w
      fun e w' => e = .returned (.bool (decide (us = us') && agreeTo L L' lp lp' (timesN L.length L'.length lp lp'))) ∧ w.grownBy w' none := by
  obtain ⟨n, hn⟩ : ∃ n, us.length = n := ⟨_, rfl⟩
  obtain ⟨n', hn'⟩ : ∃ n', us'.length = n' := ⟨_, rfl⟩
  obtain ⟨k, hk⟩ : ∃ k, L.length = k := ⟨_, rfl⟩
  obtain ⟨k', hk'⟩ : ∃ k', L'.length = k' := ⟨_, rfl⟩
  have hg : w.grownBy ((w.alloc (.cells #[.slice sa n sc, .int .i64 st, .slice ta k tc, .int .i64 lp] 33)).alloc (.cells #[.slice sa' n' sc', .int .i64 st', .slice ta' k' tc', .int .i64 lp'] 33)) none := (World.grownBy_alloc _ _ none).trans (World.grownBy_alloc _ _ none)
  have hc := eight_cells w (.slice sa n sc) (.int .i64 st) (.slice ta k tc) (.int .i64 lp) (.slice sa' n' sc') (.int .i64 st') (.slice ta' k' tc') (.int .i64 lp') 33 33
  obtain ⟨W, hW⟩ : ∃ W, (w.alloc (.cells #[.slice sa n sc, .int .i64 st, .slice ta k tc, .int .i64 lp] 33)).alloc (.cells #[.slice sa' n' sc', .int .i64 st', .slice ta' k' tc', .int .i64 lp'] 33) = W := ⟨_, rfl⟩
  rw [hW] at hg hc
  have HEQ := Lib.hid (fun (W' : World) (hW' : W.grownBy W' none) => equalInts_calls us us' sa sa' sc sc' W' ((h.grown hg).grown hW') ((h'.grown hg).grown hW') hl)
  rw [hn, hn'] at HEQ
  have HLO := Lib.hid (fun (W' : World) => looped_calls sa n sc st ta L.length tc lp W')
  have HLP := Lib.hid (fun (W' : World) => looped_calls sa' n' sc' st' ta' L'.length tc' lp' W')
  rw [hlo] at HLO
  rw [hlo'] at HLP
  have HS1 := Lib.hid (fun (t : Nat) (W' : World) (hW' : W.grownBy W' none) (hb : Box W' w.heap.size sa n sc st ta L.length tc lp) (hb' : Box W' (w.heap.size + 1) sa' n' sc' st' ta' L'.length tc' lp') (ht : (t : Int) ≤ 9223372036854775807) =>
    same1_calls sa sa' n sc n' sc' st st' ta ta' L L' tc tc' lp lp' t w.heap.size (w.heap.size + 1) W' hb hb' ((hT.grown hg).grown hW') ((hT'.grown hg).grown hW') hlo hlo' (by omega) ht hL)
  have hlo1 := loopedB_iff.1 hlo
  have hlo2 := loopedB_iff.1 hlo'
  obtain ⟨A, hA⟩ : ∃ A, (k : Int) - lp = A := ⟨_, rfl⟩
  obtain ⟨B, hB⟩ : ∃ B, (k' : Int) - lp' = B := ⟨_, rfl⟩
  obtain ⟨M, hM⟩ : ∃ M, max lp lp' = M := ⟨_, rfl⟩
  obtain ⟨P, hP⟩ : ∃ P, A * B = P := ⟨_, rfl⟩
  obtain ⟨N, hN⟩ : ∃ N, timesN k k' lp lp' = N := ⟨_, rfl⟩
  rw [hk] at hlo1 HLO HS1
  rw [hk'] at hlo2 HLP HS1
  rw [hk, hk', hN]
  rw [hn, hn']
  have hA1 : 1 ≤ A ∧ A ≤ 64 := by omega
  have hB1 : 1 ≤ B ∧ B ≤ 64 := by omega
  have hP0 : 0 ≤ P := by rw [← hP]; exact Int.mul_nonneg (by omega) (by omega)
  have hP1 : P ≤ 4096 := by
    rw [← hP]
    have h1 : A * B ≤ 64 * B := Int.mul_le_mul_of_nonneg_right hA1.2 (by omega)
    omega
  have hM0 : 0 ≤ M ∧ M ≤ 64 := by omega
  have hNP : M + P = (N : Int) := by rw [← hN, timesN, hA, hB, hP, hM]; omega
  have hN1 : N ≤ 4160 := by omega
  clear hA1 hlo hlo' h h' hT hT' hl hL hn hn' hk hk' hN
  obtain ⟨hA1, hA2⟩ : 1 ≤ A ∧ A ≤ 64 := by omega
  obtain ⟨hB1, hB2⟩ := hB1
  obtain ⟨hM0, hM1⟩ := hM0
  have HG := Lib.hid hg
  obtain ⟨⟨c0, c1, c2, c3⟩, d0, d1, d2, d3⟩ := hc
  have HBX := Lib.hid (fun (W' : World) (hW' : W.grownBy W' none) => And.intro ((⟨c0, c1, c2, c3⟩ : Box W w.heap.size sa n sc st ta k tc lp).grown hW') ((⟨d0, d1, d2, d3⟩ : Box W (w.heap.size + 1) sa' n' sc' st' ta' k' tc' lp').grown hW'))
  have HLO1 := Lib.hid (And.intro hlo1 hlo2); clear hlo1 hlo2 hg
  go_enter Try.func28, Try.ntmps28
  go_wp2_with fail
  clear hW
  refine (HLO.out _).mono ?_
  rintro e W1 ⟨rfl, g1⟩
  have HG1 := Lib.hid g1; clear g1 c0 c1 c2 c3 d0 d1 d2 d3
  obtain ⟨⟨c0, c1, c2, c3⟩, d0, d1, d2, d3⟩ := HBX.out W1 HG1.out
  go_wp2_with fail
  refine (HLP.out _).mono ?_
  rintro e W2 ⟨rfl, g2⟩
  have HG2 := Lib.hid (HG1.out.trans g2); clear g2 c0 c1 c2 c3 d0 d1 d2 d3
  obtain ⟨⟨c0, c1, c2, c3⟩, d0, d1, d2, d3⟩ := HBX.out W2 HG2.out
  go_wp2_with fail
  refine (HEQ.out _ HG2.out).mono ?_
  rintro e W3 ⟨rfl, q, rfl⟩
  by_cases hus : us = us'
  · have hD := decide_eq_true hus
    have HD := Lib.hid hD
    rw [hD]
    clear hD hus
    have HG3 := Lib.hid (HG2.out.trans (grown_drewN W2 q none))
    have HMX := HLO1.out
    have hlow : 0 ≤ lp ∧ 0 ≤ lp' ∧ lp ≤ 64 ∧ lp' ≤ 64 := by omega
    obtain ⟨hl0, hl0', hl1, hl1'⟩ := hlow
    clear HMX
    have key : ((¬ lp' ≤ lp) ∧ decide (lp' ≤ lp) = false ∧ max lp lp' = lp' ∧ lp' + P = (N : Int)) ∨ (lp' ≤ lp ∧ decide (lp' ≤ lp) = true ∧ max lp lp' = lp ∧ lp + P = (N : Int)) := by
      by_cases h : lp' ≤ lp
      · exact .inr ⟨h, decide_eq_true h, by omega, by omega⟩
      · exact .inl ⟨h, decide_eq_false h, by omega, by omega⟩
    rcases key with ⟨hle, hle2, hmx, hNQ⟩ | ⟨hle, hle2, hmx, hNQ⟩
    all_goals
      clear hM hNP
      go_wp2_with fail
      clear hA hB hmx hP hNQ hA1 hA2 hB1 hB2 hP0 hP1 hM0 hM1 hl0 hl0' hl1 hl1' hle hle2 c0 c1 c2 c3 d0 d1 d2 d3
      obtain ⟨W4, hW4⟩ : ∃ W4, W2.drewN q = W4 := ⟨_, rfl⟩
      rw [hW4] at HG3 ⊢
      clear hW4
      go_loopg [47] N (fun g s47 wr => ∃ (i : Nat), s47 = .int .i64 (i : Int) ∧ g = N - i ∧ i ≤ N ∧ (∀ t : Nat, t < i → atL L lp (t : Int) = atL L' lp' (t : Int)) ∧ W.grownBy wr none)
      case atStart => exact ⟨0, rfl, rfl, Nat.zero_le _, fun t ht => absurd ht (Nat.not_lt_zero _), HG3.out⟩
      case round =>
        obtain ⟨i, rfl, hgi, hi, hok, hgr⟩ := hrel
        have HGI := Lib.hid (And.intro hgi (And.intro hok hgr)); clear hgi hok hgr
        by_cases hiN : i < N
        · have hinB : decide (i < N) = true := by simpa using hiN
          have hb := HBX.out wr HGI.out.2.2
          have HC := Lib.hid (HS1.out i wr HGI.out.2.2 hb.1 hb.2 (by omega)); clear hb
          obtain ⟨R, hR⟩ : ∃ R, decide (atL L lp (i : Int) = atL L' lp' (i : Int)) = R := ⟨_, rfl⟩
          rw [hR] at HC
          have HRR := Lib.hid hR; clear hR
          go_wp2_with fail
          refine HC.out.mono ?_
          rintro e w5 ⟨rfl, g5⟩
          have HG5 := Lib.hid (HGI.out.2.2.trans g5); clear g5
          cases R with
          | true =>
            go_wp2_with fail
            go_roundg (N - (i + 1))
            case measure => rw [HGI.out.1]; omega
            case rel => exact ⟨i + 1, rfl, rfl, by omega, fun t ht => by
              by_cases h1 : t < i
              · exact HGI.out.2.1 t h1
              · have : t = i := by omega
                subst this
                exact of_decide_eq_true HRR.out, HG5.out⟩
          | false =>
            have HF : Hid ((decide (us = us') && agreeTo L L' lp lp' N) = false) := Lib.hid (by
              rw [Bool.and_eq_false_iff]
              right
              cases h : agreeTo L L' lp lp' N with
              | false => rfl
              | true => exact absurd (agreeTo_iff.1 h i hiN) (of_decide_eq_false HRR.out))
            go_wp2_with fail
            go_ret
            exact ⟨by rw [HF.out]; rfl, HG.out.trans HG5.out⟩
        · have hie : i = N := by omega
          subst hie
          have hinB : decide (i < i) = false := by simp
          have HF : Hid ((decide (us = us') && agreeTo L L' lp lp' i) = true) := Lib.hid (by
            rw [HD.out, Bool.true_and]
            exact agreeTo_iff.2 HGI.out.2.1)
          go_wp2_with fail
          go_ret
          exact ⟨by rw [HF.out]; rfl, HG.out.trans HGI.out.2.2⟩
  · have hD := decide_eq_false hus
    have HD := Lib.hid hD
    rw [hD]
    clear hD hus
    go_wp2_with fail
    go_ret
    exact ⟨by rw [HD.out]; rfl, (HG.out.trans HG2.out).trans (grown_drewN _ _ _)⟩
end Go.Proofs.Ytbddpjofhddilaa
