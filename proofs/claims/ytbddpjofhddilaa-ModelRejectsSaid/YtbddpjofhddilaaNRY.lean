/- The reference's comparison of two models. -/
import Derived.Test.YtbddpjofhddilaaNRX
namespace Go.Proofs.Ytbddpjofhddilaa
open Go.RowKit

set_option maxRecDepth 100000 in
set_option maxHeartbeats 4000000 in
theorem rEqual_calls (us us' : List Int) (sa sa' : Option Addr) (sc sc' : Nat) (st st' lp lp' : Int) (L L' : List (List Rl)) (ta ta' : Option Addr) (tc tc' : Nat) (w : World) (h : IntsW w sa sc us) (h' : IntsW w sa' sc' us') (hT : Sts w ta tc L) (hT' : Sts w ta' tc' L')
    (hl : (us.length : Int) ≤ 9223372036854775807) (hL : Lens L) :
    Calls Try.prog 21 #[.agg #[.slice sa us.length sc, .int .i64 st, .slice ta L.length tc, .int .i64 lp], .agg #[.slice sa' us'.length sc', .int .i64 st', .slice ta' L'.length tc', .int .i64 lp']] w
      fun e w' => e = .returned (.bool (modelEq us us' st st' lp lp' L L')) ∧ w.grownBy w' none := by
  obtain ⟨n, hn⟩ : ∃ n, us.length = n := ⟨_, rfl⟩
  obtain ⟨n', hn'⟩ : ∃ n', us'.length = n' := ⟨_, rfl⟩
  obtain ⟨k, hk⟩ : ∃ k, L.length = k := ⟨_, rfl⟩
  obtain ⟨k', hk'⟩ : ∃ k', L'.length = k' := ⟨_, rfl⟩
  have hg : w.grownBy ((w.alloc (.cells #[.slice sa n sc, .int .i64 st, .slice ta k tc, .int .i64 lp] 33)).alloc (.cells #[.slice sa' n' sc', .int .i64 st', .slice ta' k' tc', .int .i64 lp'] 33)) none := (World.grownBy_alloc _ _ none).trans (World.grownBy_alloc _ _ none)
  have HA := Lib.hid (rInts_calls us us' sa sa' sc sc' _ (h.grown hg) (h'.grown hg) hl)
  have HT := Lib.hid (And.intro (hT.grown hg) (And.intro (hT'.grown hg) (And.intro hL (And.intro hk hk'))))
  have hc := eight_cells w (.slice sa n sc) (.int .i64 st) (.slice ta k tc) (.int .i64 lp) (.slice sa' n' sc') (.int .i64 st') (.slice ta' k' tc') (.int .i64 lp') 33 33
  have hkb : (k : Int) ≤ 9223372036854775807 := by rw [← hk]; exact hL.1
  rw [hn, hn'] at HA
  rw [hn, hn', hk, hk']
  clear hn hn' hk hk' h h' hT hT' hl hL
  obtain ⟨W, hW⟩ : ∃ W, (w.alloc (.cells #[.slice sa n sc, .int .i64 st, .slice ta k tc, .int .i64 lp] 33)).alloc (.cells #[.slice sa' n' sc', .int .i64 st', .slice ta' k' tc', .int .i64 lp'] 33) = W := ⟨_, rfl⟩
  rw [hW] at hg HA HT hc
  obtain ⟨⟨c0, c1, c2, c3⟩, d0, d1, d2, d3⟩ := hc
  have HG := Lib.hid hg; clear hg
  have HR : ∀ b, b = modelEq us us' st st' lp lp' L L' → Hid (modelEq us us' st st' lp lp' L L' = b) := fun b h => Lib.hid h.symm
  by_cases hB1 : us = us'
  rotate_left
  · have hD := decide_eq_false hB1
    rw [hD] at HA
    have HRR := HR false (by simp [modelEq, hB1])
    clear HR hD hB1
    go_enter Try.func21, Try.ntmps21
    go_wp2_with fail
    refine HA.out.mono ?_
    rintro e w1 ⟨rfl, q, rfl⟩
    go_wp2_with fail
    go_ret
    exact ⟨by rw [HRR.out]; rfl, HG.out.trans (grown_drewN _ _ _)⟩
  have hD := decide_eq_true hB1
  rw [hD] at HA
  by_cases hB2 : st = st'
  rotate_left
  · have f2 : (st != st') = true := by simpa using hB2
    have HRR := HR false (by simp [modelEq, hB2])
    clear HR hD hB1 hB2
    go_enter Try.func21, Try.ntmps21
    go_wp2_with fail
    refine HA.out.mono ?_
    rintro e w1 ⟨rfl, q, rfl⟩
    go_wp2_with fail
    go_ret
    exact ⟨by rw [HRR.out]; rfl, HG.out.trans (grown_drewN _ _ _)⟩
  have f2 : (st != st') = false := by simpa using hB2
  by_cases hB3 : lp = lp'
  rotate_left
  · have f3 : (lp != lp') = true := by simpa using hB3
    have HRR := HR false (by simp [modelEq, hB3])
    clear HR hD hB1 hB2 hB3
    go_enter Try.func21, Try.ntmps21
    go_wp2_with fail
    refine HA.out.mono ?_
    rintro e w1 ⟨rfl, q, rfl⟩
    go_wp2_with fail
    go_ret
    exact ⟨by rw [HRR.out]; rfl, HG.out.trans (grown_drewN _ _ _)⟩
  have f3 : (lp != lp') = false := by simpa using hB3
  by_cases hB4 : k = k'
  rotate_left
  · have f4 : ((k : Int) != (k' : Int)) = true := by simp; omega
    have hne : L ≠ L' := by rintro rfl; exact hB4 (HT.out.2.2.2.1.symm.trans HT.out.2.2.2.2)
    have HRR := HR false (by simp [modelEq, hne])
    clear HR hD hB1 hB2 hB3 hB4 hne
    go_enter Try.func21, Try.ntmps21
    go_wp2_with fail
    refine HA.out.mono ?_
    rintro e w1 ⟨rfl, q, rfl⟩
    go_wp2_with fail
    go_ret
    exact ⟨by rw [HRR.out]; rfl, HG.out.trans (grown_drewN _ _ _)⟩
  have f4 : ((k : Int) != (k' : Int)) = false := by simp; omega
  have HRR := HR (decide (L = L')) (by simp [modelEq, hB1, hB2, hB3])
  subst hB4
  clear HR hD hB1 hB2 hB3
  go_enter Try.func21, Try.ntmps21
  go_wp2_with fail
  refine HA.out.mono ?_
  rintro e w1 ⟨rfl, q, rfl⟩
  go_wp2_with fail
  obtain ⟨W1, hW1⟩ : ∃ W1, W.drewN q = W1 := ⟨_, rfl⟩
  have HG1 : Hid (W.grownBy W1 none) := Lib.hid (by rw [← hW1]; exact grown_drewN _ _ _)
  rw [hW1]
  clear hW1 hW f2 f3 f4
  have HBX := Lib.hid (fun (W' : World) (hW' : W.grownBy W' none) => And.intro ((⟨c0, c1, c2, c3⟩ : Box W w.heap.size sa n sc st ta k tc lp).grown hW') ((⟨d0, d1, d2, d3⟩ : Box W (w.heap.size + 1) sa' n' sc' st' ta' k tc' lp').grown hW'))
  clear c0 c1 c2 c3 d0 d1 d2 d3
  go_loopg [5] k (fun g s5 wr => ∃ i : Nat, s5 = .int .i64 (i : Int) ∧ g = k - i ∧ i ≤ k ∧ (∀ j, j < i → L[j]? = L'[j]?) ∧ W.grownBy wr none)
  case atStart => exact ⟨0, rfl, rfl, Nat.zero_le _, fun j hj => absurd hj (Nat.not_lt_zero _), HG1.out⟩
  case round =>
    obtain ⟨i, rfl, hgi, hi, hok, hgr⟩ := hrel
    have HGI := Lib.hid (And.intro hgi (And.intro hok hgr)); clear hgi hok hgr
    obtain ⟨⟨c0, c1, c2, c3⟩, d0, d1, d2, d3⟩ := HBX.out wr HGI.out.2.2
    by_cases hin : i < k
    · have hinB : decide (i < k) = true := by simpa using hin
      have hinI : (i : Int) < (k : Int) := by omega
      obtain ⟨x, hx⟩ : ∃ x, L[i]? = some x := ⟨_, List.getElem?_eq_getElem (by rw [HT.out.2.2.2.1]; exact hin)⟩
      obtain ⟨y, hy⟩ : ∃ y, L'[i]? = some y := ⟨_, List.getElem?_eq_getElem (by rw [HT.out.2.2.2.2]; exact hin)⟩
      obtain ⟨sb, so, rfl, la, lc, cs, hrels⟩ := (HT.out.1.grown HGI.out.2.2).2 i x hx
      obtain ⟨sb', so', rfl, la', lc', cs', hrels'⟩ := (HT.out.2.1.grown HGI.out.2.2).2 i y hy
      have hxl := HT.out.2.2.1.2 x (List.mem_of_getElem? hx)
      have HST := Lib.hid (fun (W' : World) (hW' : wr.grownBy W' none) => rSame_calls x y la la' lc lc' W' (hrels.grown hW') (hrels'.grown hW') hxl)
      have HX := Lib.hid (And.intro hx hy); clear hx hy hrels hrels' hxl
      obtain ⟨p, hp⟩ : ∃ p, x.length = p := ⟨_, rfl⟩
      obtain ⟨p', hp'⟩ : ∃ p', y.length = p' := ⟨_, rfl⟩
      rw [hp] at cs
      rw [hp'] at cs'
      rw [hp, hp'] at HST
      obtain ⟨B, hBB⟩ : ∃ B, decide (x = y) = B := ⟨_, rfl⟩
      rw [hBB] at HST
      have HBB := Lib.hid hBB; clear hBB hp hp'
      go_wp2_with fail
      go_region_held3 (fun w' => wr.grownBy w' none ∧ w'.cell? ⟨w.heap.size, 2, none⟩ = some (.slice (some ⟨sb, so, none⟩) k tc) ∧ w'.cell? ⟨w.heap.size + 1, 2, none⟩ = some (.slice (some ⟨sb', so', none⟩) k tc') ∧ w'.cell? ⟨sb, so + i, none⟩ = some (.slice la p lc) ∧ w'.cell? ⟨sb', so' + i, none⟩ = some (.slice la' p' lc'))
        (first | exact ⟨⟨rfl, rfl, rfl, Nat.le_refl _, fun _ _ _ => rfl⟩, c2, d2, cs, cs'⟩ | (go_split_ands; exact held_next4' g3 (by assumption) (by assumption) (by assumption) (by assumption) (by assumption)) | fail)
        (first | (go_at_call 25; with_reducible refine (HST.out _ ?_).mono ?_; (go_split_ands; assumption); rintro e w3 ⟨rfl, g3⟩) | fail)
      all_goals
        have h3 : wr.grownBy w3 none := by go_split_ands; assumption
        have HG3 := Lib.hid (HGI.out.2.2.trans h3); clear h3
        cases B with
        | true =>
          have HQ : Hid (L[i]? = L'[i]?) := Lib.hid (by rw [HX.out.1, HX.out.2, of_decide_eq_true HBB.out])
          go_wp2_with fail
          go_roundg (k - (i + 1))
          case measure => rw [HGI.out.1]; omega
          case rel => exact ⟨i + 1, rfl, rfl, by omega, agree_step HGI.out.2.1 HQ.out, HG3.out⟩
        | false =>
          have HF : Hid (decide (L = L') = false) := Lib.hid (decide_eq_false (list_ne HX.out.1 HX.out.2 (of_decide_eq_false HBB.out)))
          go_wp2_with fail
          go_ret
          exact ⟨by rw [HRR.out, HF.out]; rfl, HG.out.trans HG3.out⟩
    · have hie : i = k := by omega
      subst hie
      have hinB : decide (i < i) = false := by simp
      have HF : Hid (decide (L = L') = true) := Lib.hid (decide_eq_true (list_eq HT.out.2.2.2.1 HT.out.2.2.2.2 HGI.out.2.1))
      go_wp2_with fail
      go_ret
      exact ⟨by rw [HRR.out, HF.out]; rfl, HG.out.trans HGI.out.2.2⟩
end Go.Proofs.Ytbddpjofhddilaa
