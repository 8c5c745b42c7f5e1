/- The reference's comparison of two states; two models are compared. -/
import Derived.Test.YtbddpjofhddilaaRF
namespace Go.Proofs.Ytbddpjofhddilaa
open Go.RowKit

theorem held_next4' {wr W W' : World} {a b c d : Addr} {x y z u : Value} (g : W.grownBy W' none) (h1 : wr.grownBy W none) (h2 : W.cell? a = some x) (h3 : W.cell? b = some y) (h4 : W.cell? c = some z) (h5 : W.cell? d = some u) :
    wr.grownBy W' none ∧ W'.cell? a = some x ∧ W'.cell? b = some y ∧ W'.cell? c = some z ∧ W'.cell? d = some u :=
  ⟨h1.trans g, g.cell h2 (by simp), g.cell h3 (by simp), g.cell h4 (by simp), g.cell h5 (by simp)⟩

theorem eight_cells (w : World) (u0 u1 u2 u3 v0 v1 v2 v3 : Value) (s t : TypeId) : (((w.alloc (.cells #[u0, u1, u2, u3] s)).alloc (.cells #[v0, v1, v2, v3] t)).cell? ⟨w.heap.size, 0, none⟩ = some u0 ∧ ((w.alloc (.cells #[u0, u1, u2, u3] s)).alloc (.cells #[v0, v1, v2, v3] t)).cell? ⟨w.heap.size, 1, none⟩ = some u1 ∧
    ((w.alloc (.cells #[u0, u1, u2, u3] s)).alloc (.cells #[v0, v1, v2, v3] t)).cell? ⟨w.heap.size, 2, none⟩ = some u2 ∧ ((w.alloc (.cells #[u0, u1, u2, u3] s)).alloc (.cells #[v0, v1, v2, v3] t)).cell? ⟨w.heap.size, 3, none⟩ = some u3) ∧
    ((w.alloc (.cells #[u0, u1, u2, u3] s)).alloc (.cells #[v0, v1, v2, v3] t)).cell? ⟨w.heap.size + 1, 0, none⟩ = some v0 ∧ ((w.alloc (.cells #[u0, u1, u2, u3] s)).alloc (.cells #[v0, v1, v2, v3] t)).cell? ⟨w.heap.size + 1, 1, none⟩ = some v1 ∧
    ((w.alloc (.cells #[u0, u1, u2, u3] s)).alloc (.cells #[v0, v1, v2, v3] t)).cell? ⟨w.heap.size + 1, 2, none⟩ = some v2 ∧ ((w.alloc (.cells #[u0, u1, u2, u3] s)).alloc (.cells #[v0, v1, v2, v3] t)).cell? ⟨w.heap.size + 1, 3, none⟩ = some v3 := by
  refine ⟨⟨by go_simp, by go_simp, by go_simp, by go_simp⟩, by go_simp, by go_simp, by go_simp, by go_simp⟩

set_option maxRecDepth 100000 in
set_option maxHeartbeats 2000000 in
theorem rSame_calls (l m : List Rl) (a a' : Option Addr) (c c' : Nat) (w : World) (h : Rels w a c l) (h' : Rels w a' c' m) (hlen : Len l) :
    Calls Try.prog 25 #[.slice a l.length c, .slice a' m.length c'] w fun e w' => e = .returned (.bool (decide (l = m))) ∧ w.grownBy w' none := by
  obtain ⟨hl, hlits⟩ := hlen
  obtain ⟨n, hn⟩ : ∃ n, l.length = n := ⟨_, rfl⟩
  obtain ⟨n', hn'⟩ : ∃ n', m.length = n' := ⟨_, rfl⟩
  rw [hn] at hl ⊢
  rw [hn']
  have HN := Lib.hid (And.intro hn hn')
  have HH := Lib.hid (And.intro h (And.intro h' hlits)); clear h h' hlits
  by_cases hnm : n = n'
  · have hB : ((n : Int) != (n' : Int)) = false := by simp; omega
    subst hnm
    clear hn hn'
    go_enter Try.func25, Try.ntmps25
    go_wp2
    go_loopg [5] n (fun g s5 wr => ∃ i : Nat, s5 = .int .i64 (i : Int) ∧ g = n - i ∧ i ≤ n ∧ (∀ j, j < i → l[j]? = m[j]?) ∧ w.grownBy wr none)
    case atStart => exact ⟨0, rfl, rfl, Nat.zero_le _, fun j hj => absurd hj (Nat.not_lt_zero _), grown_refl _ _⟩
    case round =>
      obtain ⟨i, rfl, hgi, hi, hok, hgr⟩ := hrel
      have HGI := Lib.hid (And.intro hgi (And.intro hok hgr)); clear hgi hok hgr
      by_cases hin : i < n
      · have hinB : decide (i < n) = true := by simpa using hin
        have hinI : (i : Int) < (n : Int) := by omega
        obtain ⟨x, hx⟩ : ∃ x, l[i]? = some x := ⟨_, List.getElem?_eq_getElem (by rw [HN.out.1]; exact hin)⟩
        obtain ⟨y, hy⟩ : ∃ y, m[i]? = some y := ⟨_, List.getElem?_eq_getElem (by rw [HN.out.2]; exact hin)⟩
        obtain ⟨b, o, rfl, c0, la, lc, c1, hints⟩ := (HH.out.1.grown HGI.out.2.2).2 i x hx
        obtain ⟨b', o', rfl, d0, la', lc', d1, hints'⟩ := (HH.out.2.1.grown HGI.out.2.2).2 i y hy
        have HK := Lib.hid (HH.out.2.2 x (List.mem_of_getElem? hx))
        have HX := Lib.hid (And.intro hx hy); clear hx hy
        have HE := Lib.hid (fun (W' : World) (hW' : wr.grownBy W' none) => rRelEqual_calls x y la la' lc lc' W' (hints.grown hW') (hints'.grown hW') HK.out)
        clear hints hints'
        obtain ⟨B, hBB⟩ : ∃ B, decide (x = y) = B := ⟨_, rfl⟩
        rw [hBB] at HE
        have HBB := Lib.hid hBB; clear hBB
        go_wp2_with fail
        go_region_held3 (fun w' => wr.grownBy w' none ∧ w'.cell? ⟨b, o + i * 2, none⟩ = some (.int .i64 x.1) ∧ w'.cell? ⟨b, o + i * 2 + 1, none⟩ = some (.slice la x.2.length lc) ∧ w'.cell? ⟨b', o' + i * 2, none⟩ = some (.int .i64 y.1) ∧ w'.cell? ⟨b', o' + i * 2 + 1, none⟩ = some (.slice la' y.2.length lc'))
          (first | exact ⟨⟨rfl, rfl, rfl, Nat.le_refl _, fun _ _ _ => rfl⟩, c0, c1, d0, d1⟩ | (go_split_ands; exact held_next4' g3 (by assumption) (by assumption) (by assumption) (by assumption) (by assumption)) | fail)
          (first | (go_at_call 59; with_reducible refine (HE.out _ ?_).mono ?_; (go_split_ands; assumption); rintro e w3 ⟨rfl, g3⟩) | fail)
        all_goals
          have h3 : wr.grownBy w3 none := by go_split_ands; assumption
          have HG := Lib.hid (HGI.out.2.2.trans h3); clear h3
          cases B with
          | true =>
            have HQ : Hid (l[i]? = m[i]?) := Lib.hid (by rw [HX.out.1, HX.out.2, of_decide_eq_true HBB.out])
            go_wp2_with fail
            go_roundg (n - (i + 1))
            case measure => rw [HGI.out.1]; omega
            case rel => exact ⟨i + 1, rfl, rfl, by omega, agree_step HGI.out.2.1 HQ.out, HG.out⟩
          | false =>
            have HR : Hid (decide (l = m) = false) := Lib.hid (decide_eq_false (list_ne HX.out.1 HX.out.2 (of_decide_eq_false HBB.out)))
            go_wp2_with fail
            go_ret
            exact ⟨by rw [HR.out]; rfl, HG.out⟩
      · have hie : i = n := by omega
        subst hie
        have hinB : decide (i < i) = false := by simp
        have HR : Hid (decide (l = m) = true) := Lib.hid (decide_eq_true (list_eq HN.out.1 HN.out.2 HGI.out.2.1))
        go_wp2
        go_ret
        exact ⟨by rw [HR.out]; rfl, HGI.out.2.2⟩
  · have hB : ((n : Int) != (n' : Int)) = true := by simp; omega
    have HR : Hid (decide (l = m) = false) := Lib.hid (decide_eq_false (by rintro rfl; omega))
    clear hn hn'
    go_enter Try.func25, Try.ntmps25
    go_wp2
    go_ret
    exact ⟨by rw [HR.out]; rfl, grown_refl _ _⟩

set_option maxHeartbeats 2000000 in
theorem equalTraces_calls (l m : List (List Rl)) (a a' : Option Addr) (c c' : Nat) (w : World) (h : Sts w a c l) (h' : Sts w a' c' m) (hlen : Lens l) :
    Calls Try.prog 76 #[.slice a l.length c, .slice a' m.length c', .func (.func 77) #[] #[]] w fun e w' => e = .returned (.bool (decide (l = m))) ∧ w.grownBy w' none := by
  obtain ⟨hl, hlits⟩ := hlen
  obtain ⟨n, hn⟩ : ∃ n, l.length = n := ⟨_, rfl⟩
  obtain ⟨n', hn'⟩ : ∃ n', m.length = n' := ⟨_, rfl⟩
  rw [hn] at hl ⊢
  rw [hn']
  have HN := Lib.hid (And.intro hn hn')
  have HH := Lib.hid (And.intro h (And.intro h' hlits)); clear h h' hlits
  by_cases hnm : n = n'
  · have hB : ((n : Int) != (n' : Int)) = false := by simp; omega
    subst hnm
    clear hn hn'
    go_enter Try.func76, Try.ntmps76
    go_wp2
    go_loopg [17] n (fun g s5 wr => ∃ i : Nat, s5 = .int .i64 (i : Int) ∧ g = n - i ∧ i ≤ n ∧ (∀ j, j < i → l[j]? = m[j]?) ∧ w.grownBy wr none)
    case atStart => exact ⟨0, rfl, rfl, Nat.zero_le _, fun j hj => absurd hj (Nat.not_lt_zero _), grown_refl _ _⟩
    case round =>
      obtain ⟨i, rfl, hgi, hi, hok, hgr⟩ := hrel
      have HGI := Lib.hid (And.intro hgi (And.intro hok hgr)); clear hgi hok hgr
      by_cases hin : i < n
      · have hinB : decide (i < n) = true := by simpa using hin
        have hinI : (i : Int) < (n : Int) := by omega
        obtain ⟨x, hx⟩ : ∃ x, l[i]? = some x := ⟨_, List.getElem?_eq_getElem (by rw [HN.out.1]; exact hin)⟩
        obtain ⟨y, hy⟩ : ∃ y, m[i]? = some y := ⟨_, List.getElem?_eq_getElem (by rw [HN.out.2]; exact hin)⟩
        obtain ⟨b, o, rfl, la, lc, c1, hints⟩ := (HH.out.1.grown HGI.out.2.2).2 i x hx
        obtain ⟨b', o', rfl, la', lc', d1, hints'⟩ := (HH.out.2.1.grown HGI.out.2.2).2 i y hy
        have HK := Lib.hid (HH.out.2.2 x (List.mem_of_getElem? hx))
        have HX := Lib.hid (And.intro hx hy); clear hx hy
        have HI := Lib.hid (And.intro hints hints'); clear hints hints'
        go_wp2_with fail
        refine (equalStates_calls x y la la' lc lc' _ HI.out.1 HI.out.2 HK.out).mono ?_
        rintro e w' ⟨rfl, hg⟩
        have HG := Lib.hid (HGI.out.2.2.trans hg); clear hg
        by_cases hxy : x = y
        · have HE : Hid (l[i]? = m[i]?) := Lib.hid (by rw [HX.out.1, HX.out.2, hxy])
          obtain ⟨B, hBB⟩ : ∃ B, decide (x = y) = B := ⟨_, rfl⟩
          have hBt : B = true := by rw [← hBB]; exact decide_eq_true hxy
          rw [hBB]
          subst hBt
          clear hBB hxy
          go_wp2_with fail
          go_roundg (n - (i + 1))
          case measure => rw [HGI.out.1]; omega
          case rel => exact ⟨i + 1, rfl, rfl, by omega, agree_step HGI.out.2.1 HE.out, HG.out⟩
        · have HR : Hid (decide (l = m) = false) := Lib.hid (decide_eq_false (list_ne HX.out.1 HX.out.2 hxy))
          obtain ⟨B, hBB⟩ : ∃ B, decide (x = y) = B := ⟨_, rfl⟩
          have hBt : B = false := by rw [← hBB]; exact decide_eq_false hxy
          rw [hBB]
          subst hBt
          clear hBB hxy
          go_wp2_with fail
          go_ret
          exact ⟨by rw [HR.out]; rfl, HG.out⟩
      · have hie : i = n := by omega
        subst hie
        have hinB : decide (i < i) = false := by simp
        have HR : Hid (decide (l = m) = true) := Lib.hid (decide_eq_true (list_eq HN.out.1 HN.out.2 HGI.out.2.1))
        go_wp2
        go_ret
        exact ⟨by rw [HR.out]; rfl, HGI.out.2.2⟩
  · have hB : ((n : Int) != (n' : Int)) = true := by simp; omega
    have HR : Hid (decide (l = m) = false) := Lib.hid (decide_eq_false (by rintro rfl; omega))
    clear hn hn'
    go_enter Try.func76, Try.ntmps76
    go_wp2
    go_ret
    exact ⟨by rw [HR.out]; rfl, grown_refl _ _⟩

/-- Two models are equal. -/
def modelEq (us us' : List Int) (st st' lp lp' : Int) (L L' : List (List Rl)) : Bool := decide (us = us') && decide (st = st') && decide (lp = lp') && decide (L = L')

set_option maxRecDepth 100000 in
set_option maxHeartbeats 2000000 in
theorem modelEqual_calls (us us' : List Int) (sa sa' : Option Addr) (sc sc' : Nat) (st st' lp lp' : Int) (L L' : List (List Rl)) (ta ta' : Option Addr) (tc tc' : Nat) (w : World) (h : IntsW w sa sc us) (h' : IntsW w sa' sc' us') (hT : Sts w ta tc L) (hT' : Sts w ta' tc' L')
    (hl : (us.length : Int) ≤ 9223372036854775807) (hL : Lens L) :
    Calls Try.prog 20 #[.agg #[.slice sa us.length sc, .int .i64 st, .slice ta L.length tc, .int .i64 lp], .agg #[.slice sa' us'.length sc', .int .i64 st', .slice ta' L'.length tc', .int .i64 lp']] w
      fun e w' => e = .returned (.bool (modelEq us us' st st' lp lp' L L')) ∧ w.grownBy w' none := by
  obtain ⟨n, hn⟩ : ∃ n, us.length = n := ⟨_, rfl⟩
  obtain ⟨n', hn'⟩ : ∃ n', us'.length = n' := ⟨_, rfl⟩
  obtain ⟨k, hk⟩ : ∃ k, L.length = k := ⟨_, rfl⟩
  obtain ⟨k', hk'⟩ : ∃ k', L'.length = k' := ⟨_, rfl⟩
  have hg : w.grownBy ((w.alloc (.cells #[.slice sa n sc, .int .i64 st, .slice ta k tc, .int .i64 lp] 33)).alloc (.cells #[.slice sa' n' sc', .int .i64 st', .slice ta' k' tc', .int .i64 lp'] 33)) none := (World.grownBy_alloc _ _ none).trans (World.grownBy_alloc _ _ none)
  have HA := Lib.hid (And.intro (equalInts_calls us us' sa sa' sc sc' _ (h.grown hg) (h'.grown hg) hl) (fun (W' : World) (hW' : World.grownBy _ W' none) => equalTraces_calls L L' ta ta' tc tc' W' ((hT.grown hg).grown hW') ((hT'.grown hg).grown hW') hL))
  have hc := eight_cells w (.slice sa n sc) (.int .i64 st) (.slice ta k tc) (.int .i64 lp) (.slice sa' n' sc') (.int .i64 st') (.slice ta' k' tc') (.int .i64 lp') 33 33
  rw [hn, hn', hk, hk'] at HA ⊢
  clear hn hn' hk hk' h h' hT hT' hl hL
  obtain ⟨W, hW⟩ : ∃ W, (w.alloc (.cells #[.slice sa n sc, .int .i64 st, .slice ta k tc, .int .i64 lp] 33)).alloc (.cells #[.slice sa' n' sc', .int .i64 st', .slice ta' k' tc', .int .i64 lp'] 33) = W := ⟨_, rfl⟩
  rw [hW] at hg HA hc
  obtain ⟨⟨c0, c1, c2, c3⟩, d0, d1, d2, d3⟩ := hc
  have HG := Lib.hid hg; clear hg
  have HR : ∀ b, b = modelEq us us' st st' lp lp' L L' → Hid (modelEq us us' st st' lp lp' L L' = b) := fun b h => Lib.hid h.symm
  by_cases hB1 : us = us'
  · have hD := decide_eq_true hB1
    rw [hD] at HA
    by_cases hB2 : st = st'
    · have f2 : (st == st') = true := by simpa using hB2
      by_cases hB3 : lp = lp'
      · have f3 : (lp == lp') = true := by simpa using hB3
        have HRR := HR (decide (L = L')) (by simp [modelEq, hB1, hB2, hB3])
        subst hB2 hB3
        clear HR hB1 hD
        go_enter Try.func20, Try.ntmps20
        go_wp2_with fail
        refine HA.out.1.mono ?_
        rintro e w1 ⟨rfl, q, rfl⟩
        go_wp2_with fail
        refine (HA.out.2 _ (grown_drewN _ _ _)).mono ?_
        rintro e w2 ⟨rfl, g2⟩
        have HG2 := Lib.hid (HG.out.trans (World.grownBy.trans (grown_drewN _ _ _) g2)); clear g2
        go_wp2_with fail
        go_ret
        exact ⟨by rw [HRR.out]; rfl, HG2.out⟩
      · have f3 : (lp == lp') = false := by simpa using hB3
        have HRR := HR false (by simp [modelEq, hB3])
        subst hB2
        clear HR hB1 hB3 hD
        go_enter Try.func20, Try.ntmps20
        go_wp2_with fail
        refine HA.out.1.mono ?_
        rintro e w1 ⟨rfl, q, rfl⟩
        go_wp2_with fail
        go_ret
        exact ⟨by rw [HRR.out]; rfl, HG.out.trans (grown_drewN _ _ _)⟩
    · have f2 : (st == st') = false := by simpa using hB2
      have HRR := HR false (by simp [modelEq, hB2])
      clear HR hB1 hB2 hD
      go_enter Try.func20, Try.ntmps20
      go_wp2_with fail
      refine HA.out.1.mono ?_
      rintro e w1 ⟨rfl, q, rfl⟩
      go_wp2_with fail
      go_ret
      exact ⟨by rw [HRR.out]; rfl, HG.out.trans (grown_drewN _ _ _)⟩
  · have hD := decide_eq_false hB1
    rw [hD] at HA
    have HRR := HR false (by simp [modelEq, hB1])
    clear HR hB1 hD
    go_enter Try.func20, Try.ntmps20
    go_wp2_with fail
    refine HA.out.1.mono ?_
    rintro e w1 ⟨rfl, q, rfl⟩
    go_wp2_with fail
    go_ret
    exact ⟨by rw [HRR.out]; rfl, HG.out.trans (grown_drewN _ _ _)⟩
end Go.Proofs.Ytbddpjofhddilaa
