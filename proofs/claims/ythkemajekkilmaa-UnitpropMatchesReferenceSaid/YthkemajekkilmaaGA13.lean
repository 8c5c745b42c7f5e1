/- Stage 20, joined: R8, R9, R10, R11. -/
import Derived.Test.YthkemajekkilmaaGA12
import Derived.BigRegion
import Derived.Test.YthkemajekkilmaaGA10
/- The reference's Implies and Propagate. -/
namespace Go.Proofs.Ythkemajekkilmaa
open Go.RowKit
set_option maxHeartbeats 16000000 in
set_option maxRecDepth 100000 in
theorem field57 (a a' : Option Addr) (n c n' c' : Nat) (x : Int) (w : World) : (Instr.field 57 (.agg #[.slice a n c, .slice a' n' c', .int .i64 x]) 2).run Try.prog w = .ok (.int .i64 x) w := by kernel_rfl
set_option maxHeartbeats 16000000 in
set_option maxRecDepth 100000 in
theorem refImplies_calls (V : Nat) (C : List (List Int)) (ca : Option Addr) (cc : Nat) (A : List Int) (aa : Option Addr) (ac : Nat) (w : World) (h : ClsW w ca cc C) (hA : IntsW w aa ac A) (hV : V ≤ 40) (hC : C.length ≤ 1000) (hL : ∀ c ∈ C, c.length ≤ 100) (hR : Ran V C) (hAl : A.length ≤ 100) (hAr : ∀ x ∈ A, InR V x) :
    Calls Try.prog 21 #[.agg #[.int .i64 (V : Int), .slice ca C.length cc], .slice aa A.length ac] w fun e w' => (∃ b : Bool, e = .returned (.bool b) ∧ (b = true ↔ (contraP (negL A) = true ∨ Conf C (negL A)))) ∧ w.grownBy w' none := by
  obtain ⟨n, hn⟩ : ∃ n, C.length = n := ⟨_, rfl⟩
  obtain ⟨an, han⟩ : ∃ n, A.length = n := ⟨_, rfl⟩
  obtain ⟨T, hT⟩ : ∃ T : Prop, (contraP (negL A) = true ∨ Conf C (negL A)) = T := ⟨_, rfl⟩
  rw [hT]
  obtain ⟨W1, hW1⟩ : ∃ z, w.alloc (.cells #[.int .i64 (V : Int), .slice ca n cc] 24) = z := ⟨_, rfl⟩
  obtain ⟨q0, q1, hg1⟩ := box_at w _ _ hW1
  obtain ⟨bf, hbf⟩ : ∃ z, w.heap.size = z := ⟨_, rfl⟩
  rw [hbf] at q0 q1
  have hNl : (negL A).length = an := by unfold negL; rw [List.length_map, han]
  have hNr : ∀ x ∈ negL A, InR V x := fun x hx => by
    unfold negL at hx
    obtain ⟨y, hy, e⟩ := List.mem_map.1 hx
    obtain ⟨h0, h1, h2⟩ := hAr y hy
    exact ⟨by omega, by omega, by omega⟩
  have HN := negatives_calls A aa ac W1 (hA.grown hg1) (by omega) (fun x hx => by obtain ⟨_, a1, a2⟩ := hAr x hx; omega)
  rw [han] at HN
  replace HN := Lib.hid HN
  have HG1 := Lib.hid hg1
  have HC := Lib.hid (And.intro (h.grown hg1) (And.intro hn (And.intro hL (And.intro hR hC))))
  have HQ := Lib.hid (And.intro q0 q1)
  have HNL := Lib.hid (And.intro hNl (And.intro hNr hT))
  rw [hn, han]
  rw [han] at hAl
  clear h hA hL hR hAr hn han hg1 hNl hNr q0 q1 hT hC
  go_enter Try.func21, Try.ntmps21
  go_wp2_with fail
  clear hW1 hbf
  refine HN.out.mono ?_
  rintro e w2 ⟨na, nc, rfl, hni, hg2⟩
  obtain ⟨N, hN⟩ : ∃ N, negL A = N := ⟨_, rfl⟩
  rw [hN] at HNL hni
  have HNI := Lib.hid hni
  have HG2 := Lib.hid hg2
  have hcall := contradictory_calls N na nc w2 hni (by rw [HNL.out.1]; omega) (fun x hx => by obtain ⟨_, a1, a2⟩ := HNL.out.2.1 x hx; omega)
  rw [HNL.out.1] at hcall
  have HCA := Lib.hid hcall
  have q0 := hg2.cell HQ.out.1 (by simp)
  have q1 := hg2.cell HQ.out.2 (by simp)
  clear hN hni hg2 hcall HN
  go_wp2_with fail
  refine HCA.out.mono ?_
  rintro e w3 ⟨rfl, hw3⟩
  rw [hw3]
  clear hw3 w3 HCA
  cases hcb : contraP N
  case true =>
    have HT := Lib.hid (show T from by rw [← HNL.out.2.2]; exact .inl hcb)
    clear hcb
    go_wp2_with fail
    go_ret
    exact ⟨⟨true, rfl, fun _ => HT.out, fun _ => rfl⟩, World.grownBy.trans HG1.out HG2.out⟩
  case false =>
    have hrun := run_calls V C ca cc N na nc w2 (HC.out.1.grown HG2.out) HNI.out hV HC.out.2.2.2.2 HC.out.2.2.1 HC.out.2.2.2.1 (by rw [HNL.out.1]; exact hAl)
    rw [HC.out.2.1, HNL.out.1] at hrun
    have HRUN := Lib.hid hrun
    have hkk : (0 ≤ runK V C N) ↔ T := by
      rw [← HNL.out.2.2, ← (run_prop V C hcb).2.2.2, (cf_kinds HC.out.2.2.2.1 N).2.2 hcb]
      exact ⟨fun h => .inr h, fun h => h.resolve_left (by rw [hcb]; decide)⟩
    obtain ⟨kf, hkf⟩ : ∃ k, runK V C N = k := ⟨_, rfl⟩
    rw [hkf] at hkk HRUN
    have HKK := Lib.hid hkk
    clear hrun hkk hkf hcb
    go_wp2_with fail
    refine HRUN.out.mono ?_
    rintro e w4 ⟨a1, c1, a2, c2, rfl, _, _, hg4⟩
    have HG4 := Lib.hid hg4
    obtain ⟨d, hd⟩ : ∃ d, decide (0 ≤ kf) = d := ⟨_, rfl⟩
    have HD := Lib.hid hd
    clear hg4 HRUN
    have hfd := field57
    go_wp2_with fail
    go_ret
    exact ⟨⟨d, rfl, by rw [← HD.out, decide_eq_true_iff]; exact HKK.out⟩, World.grownBy.trans HG1.out (World.grownBy.trans HG2.out HG4.out)⟩
set_option maxHeartbeats 16000000 in
set_option maxRecDepth 100000 in
theorem refPropagate_calls (V : Nat) (C : List (List Int)) (ca : Option Addr) (cc : Nat) (A : List Int) (aa : Option Addr) (ac : Nat) (w : World) (h : ClsW w ca cc C) (hA : IntsW w aa ac A) (hV : V ≤ 40) (hC : C.length ≤ 1000) (hL : ∀ c ∈ C, c.length ≤ 100) (hR : Ran V C) (hAl : A.length ≤ 100) (hAr : ∀ x ∈ A, InR V x) :
    Calls Try.prog 14 #[.agg #[.int .i64 (V : Int), .slice ca C.length cc], .slice aa A.length ac] w fun e w' => ∃ a c, e = .returned (.tuple #[.slice a (impP V C A).length c, .int .i64 (cfP V C A)]) ∧ IntsW w' a c (impP V C A) ∧ w.grownBy w' none := by
  obtain ⟨n, hn⟩ : ∃ n, C.length = n := ⟨_, rfl⟩
  obtain ⟨an, han⟩ : ∃ n, A.length = n := ⟨_, rfl⟩
  obtain ⟨P, hP⟩ : ∃ P : Ending → World → Prop, (fun e w' => ∃ a c, e = .returned (.tuple #[.slice a (impP V C A).length c, .int .i64 (cfP V C A)]) ∧ IntsW w' a c (impP V C A) ∧ w.grownBy w' none) = P := ⟨_, rfl⟩
  have HP := Lib.hid hP
  rw [hP]
  obtain ⟨W1, hW1⟩ : ∃ z, w.alloc (.cells #[.int .i64 (V : Int), .slice ca n cc] 24) = z := ⟨_, rfl⟩
  obtain ⟨q0, q1, hg1⟩ := box_at w _ _ hW1
  obtain ⟨bf, hbf⟩ : ∃ z, w.heap.size = z := ⟨_, rfl⟩
  rw [hbf] at q0 q1
  have hcall := contradictory_calls A aa ac W1 (hA.grown hg1) (by omega) (fun x hx => by obtain ⟨_, a1, a2⟩ := hAr x hx; omega)
  have hrun := run_calls V C ca cc A aa ac W1 (h.grown hg1) (hA.grown hg1) hV hC hL hR hAl
  rw [han] at hcall
  rw [hn, han] at hrun
  have HCA := Lib.hid hcall
  have HRUN := Lib.hid hrun
  have HG1 := Lib.hid hg1
  have HX := Lib.hid (And.intro hR hAl)
  have hv := hV
  rw [hn, han]
  clear h hA hL hR hAr hn han hg1 hC hP hcall hrun hAl
  go_enter Try.func14, Try.ntmps14
  go_wp2_with fail
  clear hW1 hbf
  refine HCA.out.mono ?_
  rintro e w3 ⟨rfl, hw3⟩
  rw [hw3]
  clear hw3 w3 HCA
  cases hcb : contraP A
  case true =>
    have e1 : impP V C A = [] := by unfold impP; rw [propP_contra hcb]; rfl
    have e2 : cfP V C A = -2 := by unfold cfP; rw [propP_contra hcb]
    have HE := Lib.hid (And.intro e1 e2)
    clear hcb e1 e2
    go_wp2_with fail
    rw [← HP.out, HE.out.1, HE.out.2]
    exact ⟨none, 0, rfl, ⟨Nat.le_refl _, .inl rfl⟩, HG1.out⟩
  case false =>
    go_wp2_with fail
    refine HRUN.out.mono ?_
    rintro e w4 ⟨la, lc, ra, rc, rfl, hl, hr, hg4⟩
    obtain ⟨tn, htn⟩ : ∃ n, (runT V C A).length = n := ⟨_, rfl⟩
    obtain ⟨m, hm⟩ : ∃ n, (uq A).length = n := ⟨_, rfl⟩
    have hlens := run_lens HX.out.1 hcb
    have hrn : (runR V C A).length = tn := by rw [← htn, hlens.1, hlens.2]
    have him : (impP V C A).length = tn - m := by have := hlens.1; omega
    have htn100 : tn ≤ 200 := by rw [← htn, hlens.1]; have h1 := uq_len A; have h2 := imp_le HX.out.1 A; have h3 := HX.out.2; omega
    have HAT : Hid (∀ k, k < tn → (k < m ∧ (runR V C A)[k]? = some (-1)) ∨ (m ≤ k ∧ ∃ (x : Int) (i : Nat), (runT V C A)[k]? = some x ∧ (runR V C A)[k]? = some (i : Int) ∧ (impP V C A)[k - m]? = some x)) := Lib.hid (fun k hk => by
      rcases run_at HX.out.1 hcb (k := k) (by rw [htn]; exact hk) with ⟨h1, h2, _⟩ | ⟨h1, x, i, h2, h3, h4, _⟩
      · exact .inl ⟨by omega, h2⟩
      · exact .inr ⟨by omega, x, i, h2, h3, by rw [← hm]; exact h4⟩)
    obtain ⟨kf, hkf⟩ : ∃ k, runK V C A = k := ⟨_, rfl⟩
    have HKF := Lib.hid (show cfP V C A = kf from by rw [(run_prop V C hcb).2.2.2, hkf])
    obtain ⟨W5, hW5⟩ : ∃ z, w4.alloc (.cells #[.slice la tn lc, .slice ra tn rc, .int .i64 kf] 57) = z := ⟨_, rfl⟩
    obtain ⟨t0, t1, t2, _, hg5⟩ := cell_three_new w4 _ _ _ 57 hW5
    obtain ⟨bt, hbt⟩ : ∃ z, w4.heap.size = z := ⟨_, rfl⟩
    rw [hbt] at t0 t1 t2
    rw [htn, hrn, hkf]
    have HG5 := Lib.hid (World.grownBy.trans HG1.out (World.grownBy.trans hg4 hg5))
    have HL := Lib.hid (And.intro (hl.grown hg5) (hr.grown hg5))
    have HT := Lib.hid (And.intro t0 (And.intro t1 t2))
    have HIM := Lib.hid (And.intro him hm)
    clear hl hr hg4 hg5 hlens hrn him htn hcb hkf HRUN q0 q1
    go_wp2_with fail
    clear hW5 hbt t0 t1 t2
    obtain ⟨i0', hi0, hz0, hz1, hz2⟩ := info_parts info3
    go_loopg [8, 9] tn (fun gk s8 s9 wr => ∃ (k : Nat) (oa : Option Addr) (oc : Nat), s8 = .slice oa (k - m) oc ∧ s9 = .int .i64 (k : Int) ∧ gk = tn - k ∧ k ≤ tn ∧ W5.grownBy wr none ∧ wr.ownsRow W5.heap.size 3 1 (.slice oa (k - m) oc) (k - m) (intCells ((impP V C A).take (k - m))))
    case atStart => exact ⟨0, none, 0, by rw [Nat.zero_sub], rfl, rfl, Nat.zero_le _, grown_refl _ _, by rw [Nat.zero_sub]; exact ⟨rfl, .inl ⟨rfl, rfl⟩⟩⟩
    case round =>
      obtain ⟨k, oa, oc, rfl, rfl, hgk, hk, hg, hown⟩ := hrel
      have HI := Lib.hid (And.intro hgk (And.intro hg hown))
      have t0 := hg.cell HT.out.1 (by simp)
      have t1 := hg.cell HT.out.2.1 (by simp)
      have t2 := hg.cell HT.out.2.2 (by simp)
      clear hgk hg hown
      by_cases hkt : k < tn
      · have f1 : decide ((k : Int) < (tn : Int)) = true := decide_eq_true (by omega)
        have f1' : decide (k < tn) = true := decide_eq_true hkt
        have j0 : (0 : Int) ≤ (k : Int) := by omega
        have j1 : (k : Int) < (tn : Int) := by omega
        have k1 : IntKind.i64.wrap ((k : Int) + 1) = (k : Int) + 1 := IntWalk.i64_in _ (by omega)
        rcases HAT.out k hkt with ⟨h1, h2⟩ | ⟨h1, x, i, h2, h3, h4⟩
        · obtain ⟨b2, o2, e2, c2⟩ := (HL.out.2.grown HI.out.2.1).at h2
          subst e2
          have HK := Lib.hid (show k + 1 - m = k - m from by omega)
          clear h1 h2
          go_wp2_with fail
          go_roundg (tn - (k + 1))
          case measure => rw [HI.out.1]; omega
          case rel => exact ⟨k + 1, oa, oc, by rw [HK.out], rfl, rfl, by omega, HI.out.2.1, by rw [HK.out]; exact HI.out.2.2⟩
        · obtain ⟨b1, o1, e1, c1⟩ := (HL.out.1.grown HI.out.2.1).at h2
          obtain ⟨b2, o2, e2, c2⟩ := (HL.out.2.grown HI.out.2.1).at h3
          subst e1 e2
          obtain ⟨p, hp⟩ : ∃ p, k - m = p := ⟨_, rfl⟩
          rw [hp] at HI h4 ⊢
          have nn : decide ((0 : Int) ≤ (i : Int)) = true := decide_eq_true (by omega)
          have HK := Lib.hid (And.intro (show k + 1 - m = p + 1 from by omega) (take_snoc h4))
          have hsz : W5.heap.size ≤ wr.heap.size := HI.out.2.1.size
          have hp200 : p ≤ 200 := by omega
          obtain ⟨L, hL⟩ : ∃ L, (impP V C A).take p = L := ⟨_, rfl⟩
          rw [hL] at HI HK
          clear h1 h2 h3 h4 hp hL
          go_wp2_with (at_builtin; refine wpList_append_own_at _ rfl _ _ 25 rfl W5.heap.size 3 i0' (.int .i64 0) 1 8 Try.underlying25 hi0 hz0 hz1 hz2 rfl (by decide) _ p (intCells L) rfl (HI.out.2.2.alloc _) ⟨wr.heap.size, 0, none⟩ 1 1 [.int .i64 x] rfl rfl (cell_one_new _ _ _) (fun u hu => by simp at hu; subst hu; rfl) (by unfold maxLen; omega) (by omega) (by simp; omega) ?_)
          intro v9 w9 hown9 hgrow9 _ _
          obtain ⟨sa, sc, rfl⟩ := own_shape hown9
          have HN9 := Lib.hid (And.intro (grown_own HI.out.2.1 ((World.grownBy_alloc wr _ _).trans hgrow9) (own_low HI.out.2.2)) hown9)
          clear hown9 hgrow9 c1 c2 t0 t1 t2
          go_wp2_with fail
          go_roundg (tn - (k + 1))
          case measure => rw [HI.out.1]; omega
          case rel => exact ⟨k + 1, sa, sc, by rw [HK.out.1], rfl, rfl, by omega, HN9.out.1, by rw [HK.out.1, HK.out.2, intCells, List.map_append]; exact HN9.out.2⟩
      · have hke : k = tn := by omega
        subst hke
        have f1 : decide (k < k) = false := by simp
        have hown := HI.out.2.2
        rw [List.take_of_length_le (by rw [HIM.out.1]; exact Nat.le_refl _)] at hown
        have HOWN := Lib.hid hown
        clear hown hi0 hz0 hz1 hz2
        go_wp2_with fail
        go_quiet (fail)
        go_wp2_with fail
        rw [← HP.out, HKF.out]
        exact ⟨oa, oc, by rw [HIM.out.1]; rfl, by first | exact (own_ints HOWN.out).2 | exact ((own_ints HOWN.out).2.grown (grown_drewN _ _ none)), World.grownBy.trans HG5.out (World.grownBy.trans HI.out.2.1 (grown_drewN _ _ _))⟩
end Go.Proofs.Ythkemajekkilmaa
/- The reference's Reasons. -/
namespace Go.Proofs.Ythkemajekkilmaa
open Go.RowKit
set_option maxHeartbeats 16000000 in
set_option maxRecDepth 100000 in
theorem refReasons_calls (V : Nat) (C : List (List Int)) (ca : Option Addr) (cc : Nat) (A : List Int) (aa : Option Addr) (ac : Nat) (w : World) (h : ClsW w ca cc C) (hA : IntsW w aa ac A) (hV : V ≤ 40) (hC : C.length ≤ 1000) (hL : ∀ c ∈ C, c.length ≤ 100) (hR : Ran V C) (hAl : A.length ≤ 100) (hAr : ∀ x ∈ A, InR V x) :
    Calls Try.prog 16 #[.agg #[.int .i64 (V : Int), .slice ca C.length cc], .slice aa A.length ac] w fun e w' => ∃ a c, e = .returned (.slice a (reasP V C A).length c) ∧ w'.ownsRow w.heap.size 34 2 (.slice a (reasP V C A).length c) (reasP V C A).length (prC (reasP V C A)) ∧ w.grownBy w' none := by
  obtain ⟨n, hn⟩ : ∃ n, C.length = n := ⟨_, rfl⟩
  obtain ⟨an, han⟩ : ∃ n, A.length = n := ⟨_, rfl⟩
  obtain ⟨P, hP⟩ : ∃ P : Ending → World → Prop, (fun e w' => ∃ a c, e = .returned (.slice a (reasP V C A).length c) ∧ w'.ownsRow w.heap.size 34 2 (.slice a (reasP V C A).length c) (reasP V C A).length (prC (reasP V C A)) ∧ w.grownBy w' none) = P := ⟨_, rfl⟩
  have HP := Lib.hid hP
  rw [hP]
  obtain ⟨W1, hW1⟩ : ∃ z, w.alloc (.cells #[.int .i64 (V : Int), .slice ca n cc] 24) = z := ⟨_, rfl⟩
  obtain ⟨q0, q1, hg1⟩ := box_at w _ _ hW1
  obtain ⟨bf, hbf⟩ : ∃ z, w.heap.size = z := ⟨_, rfl⟩
  rw [hbf] at q0 q1
  have hcall := contradictory_calls A aa ac W1 (hA.grown hg1) (by omega) (fun x hx => by obtain ⟨_, a1, a2⟩ := hAr x hx; omega)
  have hrun := run_calls V C ca cc A aa ac W1 (h.grown hg1) (hA.grown hg1) hV hC hL hR hAl
  rw [han] at hcall
  rw [hn, han] at hrun
  have HCA := Lib.hid hcall
  have HRUN := Lib.hid hrun
  have HG1 := Lib.hid hg1
  have HX := Lib.hid (And.intro hR hAl)
  have hv := hV
  rw [hn, han]
  clear h hA hL hR hAr hn han hg1 hC hP hcall hrun hAl
  go_enter Try.func16, Try.ntmps16
  go_wp2_with fail
  clear hW1 hbf
  refine HCA.out.mono ?_
  rintro e w3 ⟨rfl, hw3⟩
  rw [hw3]
  clear hw3 w3 HCA
  cases hcb : contraP A
  case true =>
    have e1 : reasP V C A = [] := by unfold reasP impP; rw [propP_contra hcb]; rfl
    have HE := Lib.hid e1
    clear hcb e1
    go_wp2_with fail
    rw [← HP.out, HE.out]
    exact ⟨none, 0, rfl, ⟨rfl, .inl ⟨rfl, rfl⟩⟩, HG1.out⟩
  case false =>
    go_wp2_with fail
    refine HRUN.out.mono ?_
    rintro e w4 ⟨la, lc, ra, rc, rfl, hl, hr, hg4⟩
    obtain ⟨tn, htn⟩ : ∃ n, (runT V C A).length = n := ⟨_, rfl⟩
    obtain ⟨m, hm⟩ : ∃ n, (uq A).length = n := ⟨_, rfl⟩
    have hlens := run_lens HX.out.1 hcb
    have hrn : (runR V C A).length = tn := by rw [← htn, hlens.1, hlens.2]
    have him : (reasP V C A).length = tn - m := by unfold reasP; rw [List.length_zip, ← imp_len HX.out.1 A, Nat.min_self]; have := hlens.1; omega
    have htn100 : tn ≤ 200 := by rw [← htn, hlens.1]; have h1 := uq_len A; have h2 := imp_le HX.out.1 A; have h3 := HX.out.2; omega
    have HAT : Hid (∀ k, k < tn → (k < m ∧ (runR V C A)[k]? = some (-1)) ∨ (m ≤ k ∧ ∃ (x : Int) (i : Nat), (runT V C A)[k]? = some x ∧ (runR V C A)[k]? = some (i : Int) ∧ (reasP V C A)[k - m]? = some (x, (i : Int)))) := Lib.hid (fun k hk => by
      rcases run_at HX.out.1 hcb (k := k) (by rw [htn]; exact hk) with ⟨h1, h2, _⟩ | ⟨h1, x, i, h2, h3, h4, h5, _⟩
      · exact .inl ⟨by omega, h2⟩
      · exact .inr ⟨by omega, x, i, h2, h3, by rw [← hm]; unfold reasP; rw [List.getElem?_zip_eq_some]; exact ⟨h4, h5⟩⟩)
    obtain ⟨kf, hkf⟩ : ∃ k, runK V C A = k := ⟨_, rfl⟩
    have HKF := Lib.hid (show cfP V C A = kf from by rw [(run_prop V C hcb).2.2.2, hkf])
    obtain ⟨W5, hW5⟩ : ∃ z, w4.alloc (.cells #[.slice la tn lc, .slice ra tn rc, .int .i64 kf] 57) = z := ⟨_, rfl⟩
    obtain ⟨t0, t1, t2, _, hg5⟩ := cell_three_new w4 _ _ _ 57 hW5
    obtain ⟨bt, hbt⟩ : ∃ z, w4.heap.size = z := ⟨_, rfl⟩
    rw [hbt] at t0 t1 t2
    rw [htn, hrn, hkf]
    have HG5 := Lib.hid (World.grownBy.trans HG1.out (World.grownBy.trans hg4 hg5))
    have HL := Lib.hid (And.intro (hl.grown hg5) (hr.grown hg5))
    have HT := Lib.hid (And.intro t0 (And.intro t1 t2))
    have HIM := Lib.hid (And.intro him hm)
    clear hl hr hg4 hg5 hlens hrn him htn hcb hkf HRUN q0 q1
    go_wp2_with fail
    clear hW5 hbt t0 t1 t2
    obtain ⟨i0', hi0, hz0, hz1, hz2⟩ := info_parts info34
    go_loopg [7, 8] tn (fun gk s8 s9 wr => ∃ (k : Nat) (oa : Option Addr) (oc : Nat), s8 = .slice oa (k - m) oc ∧ s9 = .int .i64 (k : Int) ∧ gk = tn - k ∧ k ≤ tn ∧ W5.grownBy wr none ∧ wr.ownsRow W5.heap.size 34 2 (.slice oa (k - m) oc) (k - m) (prC ((reasP V C A).take (k - m))))
    case atStart => exact ⟨0, none, 0, by rw [Nat.zero_sub], rfl, rfl, Nat.zero_le _, grown_refl _ _, by rw [Nat.zero_sub]; exact ⟨by simp [prC], .inl ⟨rfl, rfl⟩⟩⟩
    case round =>
      obtain ⟨k, oa, oc, rfl, rfl, hgk, hk, hg, hown⟩ := hrel
      have HI := Lib.hid (And.intro hgk (And.intro hg hown))
      have t0 := hg.cell HT.out.1 (by simp)
      have t1 := hg.cell HT.out.2.1 (by simp)
      have t2 := hg.cell HT.out.2.2 (by simp)
      clear hgk hg hown
      by_cases hkt : k < tn
      · have f1 : decide ((k : Int) < (tn : Int)) = true := decide_eq_true (by omega)
        have f1' : decide (k < tn) = true := decide_eq_true hkt
        have j0 : (0 : Int) ≤ (k : Int) := by omega
        have j1 : (k : Int) < (tn : Int) := by omega
        have k1 : IntKind.i64.wrap ((k : Int) + 1) = (k : Int) + 1 := IntWalk.i64_in _ (by omega)
        rcases HAT.out k hkt with ⟨h1, h2⟩ | ⟨h1, x, i, h2, h3, h4⟩
        · obtain ⟨b2, o2, e2, c2⟩ := (HL.out.2.grown HI.out.2.1).at h2
          subst e2
          have HK := Lib.hid (show k + 1 - m = k - m from by omega)
          clear h1 h2
          go_wp2_with fail
          go_roundg (tn - (k + 1))
          case measure => rw [HI.out.1]; omega
          case rel => exact ⟨k + 1, oa, oc, by rw [HK.out], rfl, rfl, by omega, HI.out.2.1, by rw [HK.out]; exact HI.out.2.2⟩
        · obtain ⟨b1, o1, e1, c1⟩ := (HL.out.1.grown HI.out.2.1).at h2
          obtain ⟨b2, o2, e2, c2⟩ := (HL.out.2.grown HI.out.2.1).at h3
          obtain ⟨_, _, e1', c01⟩ := HL.out.1.at h2
          obtain ⟨_, _, e2', c02⟩ := HL.out.2.at h3
          subst e1 e2
          cases e1'
          cases e2'
          obtain ⟨p, hp⟩ : ∃ p, k - m = p := ⟨_, rfl⟩
          rw [hp] at HI h4 ⊢
          have nn : decide ((0 : Int) ≤ (i : Int)) = true := decide_eq_true (by omega)
          have HK := Lib.hid (And.intro (show k + 1 - m = p + 1 from by omega) (take_snocG h4))
          have HP2 : Hid (p ≤ 1000000) := Lib.hid (by omega)
          have HCC := Lib.hid (And.intro c01 c02)
          obtain ⟨L, hL⟩ : ∃ L, (reasP V C A).take p = L := ⟨_, rfl⟩
          rw [hL] at HI HK
          clear h1 h2 h3 h4 hp hL
          go_wp2_with fail
          clear t0 t1 t2 c1 c2 c01 c02
          have HSR := Lib.hid (fun (Wh : World) (hWh : W5.grownBy Wh none) => (⟨hWh, hWh.cell HT.out.1 (by simp), hWh.cell HT.out.2.1 (by simp), hWh.cell HCC.out.1 (by simp), hWh.cell HCC.out.2 (by simp)⟩ : (fun Wh : World => W5.grownBy Wh none ∧ Wh.cell? ⟨bt, 0, none⟩ = some (.slice (some ⟨b1, o1, none⟩) tn lc) ∧ Wh.cell? ⟨bt, 1, none⟩ = some (.slice (some ⟨b2, o2, none⟩) tn rc) ∧ Wh.cell? ⟨b1, o1 + k, none⟩ = some (.int .i64 x) ∧ Wh.cell? ⟨b2, o2 + k, none⟩ = some (.int .i64 (i : Int))) Wh))
          have hdr : W5.grownBy wr.drew none := World.grownBy.trans HI.out.2.1 (grown_drew wr none)
          refine wp_region_held_drew (S := (fun Wh : World => W5.grownBy Wh none ∧ Wh.cell? ⟨bt, 0, none⟩ = some (.slice (some ⟨b1, o1, none⟩) tn lc) ∧ Wh.cell? ⟨bt, 1, none⟩ = some (.slice (some ⟨b2, o2, none⟩) tn rc) ∧ Wh.cell? ⟨b1, o1 + k, none⟩ = some (.int .i64 x) ∧ Wh.cell? ⟨b2, o2 + k, none⟩ = some (.int .i64 (i : Int)))) (by kernel_rfl) (HSR.out _ hdr) (fun hHeld => ?_)
          refine wpAnyH_take (i := 0) (oi := { dst := some 28, op := Op.move (Operand.tmp 7), type := 31, pos := "ref.go:140", after := #[], guard := none }) (v := ?_) rfl (by kernel_rfl) (by kernel_rfl) (by kernel_rfl) (fun _ _ _ h => h) (Or.inl ⟨by rfl, ?_⟩) (by assumption) ?_
          rotate_left 1
          · (intro W hSW; (try dsimp only at hSW); first | (go_simp; done) | (go_simp; with_reducible rfl))
          try simp only [Act.put, List.setIfInBounds_toArray, List.set_cons_zero, List.set_cons_succ]
          refine wpAnyH_take (i := 1) (oi := { dst := some 29, op := Op.fieldAddr 57 (Operand.tmp 6) 0, type := 0, pos := "ref.go:140", after := #[], guard := none }) (v := ?_) rfl (by kernel_rfl) (by kernel_rfl) (by kernel_rfl) (fun _ _ _ h => h) (Or.inl ⟨by rfl, ?_⟩) (by assumption) ?_
          rotate_left 1
          · (intro W hSW; (try dsimp only at hSW); first | (go_simp; done) | (go_simp; with_reducible rfl))
          try simp only [Act.put, List.setIfInBounds_toArray, List.set_cons_zero, List.set_cons_succ]
          refine wpAnyH_take (i := 2) (oi := { dst := some 30, op := Op.load 25 (Operand.tmp 29), type := 25, pos := "ref.go:140", after := #[{ on := 1, ground := Ground.data }], guard := none }) (v := ?_) rfl (by kernel_rfl) (by kernel_rfl) (by kernel_rfl) (fun _ _ _ h => h) (Or.inl ⟨by rfl, ?_⟩) (by assumption) ?_
          rotate_left 1
          · (intro W hSW; (try dsimp only at hSW); first | (go_simp; done) | (go_simp; with_reducible rfl))
          try simp only [Act.put, List.setIfInBounds_toArray, List.set_cons_zero, List.set_cons_succ]
          refine wpAnyH_take (i := 3) (oi := { dst := some 31, op := Op.move (Operand.tmp 8), type := 3, pos := "ref.go:140", after := #[], guard := none }) (v := ?_) rfl (by kernel_rfl) (by kernel_rfl) (by kernel_rfl) (fun _ _ _ h => h) (Or.inl ⟨by rfl, ?_⟩) (by assumption) ?_
          rotate_left 1
          · (intro W hSW; (try dsimp only at hSW); first | (go_simp; done) | (go_simp; with_reducible rfl))
          try simp only [Act.put, List.setIfInBounds_toArray, List.set_cons_zero, List.set_cons_succ]
          refine wpAnyH_take (i := 4) (oi := { dst := some 32, op := Op.indexAddr 25 (Operand.tmp 30) (Operand.tmp 31), type := 0, pos := "ref.go:140", after := #[{ on := 2, ground := Ground.data }, { on := 3, ground := Ground.data }], guard := none }) (v := ?_) rfl (by kernel_rfl) (by kernel_rfl) (by kernel_rfl) (fun _ _ _ h => h) (Or.inl ⟨by rfl, ?_⟩) (by assumption) ?_
          rotate_left 1
          · (intro W hSW; (try dsimp only at hSW); first | (go_simp; done) | (go_simp; with_reducible rfl))
          try simp only [Act.put, List.setIfInBounds_toArray, List.set_cons_zero, List.set_cons_succ]
          refine wpAnyH_take (i := 5) (oi := { dst := some 33, op := Op.load 3 (Operand.tmp 32), type := 3, pos := "ref.go:140", after := #[{ on := 4, ground := Ground.data }], guard := none }) (v := ?_) rfl (by kernel_rfl) (by kernel_rfl) (by kernel_rfl) (fun _ _ _ h => h) (Or.inl ⟨by rfl, ?_⟩) (by assumption) ?_
          rotate_left 1
          · (intro W hSW; (try dsimp only at hSW); first | (go_simp; done) | (go_simp; with_reducible rfl))
          try simp only [Act.put, List.setIfInBounds_toArray, List.set_cons_zero, List.set_cons_succ]
          refine wpAnyH_take (i := 6) (oi := { dst := some 34, op := Op.fieldAddr 57 (Operand.tmp 6) 1, type := 0, pos := "ref.go:140", after := #[], guard := none }) (v := ?_) rfl (by kernel_rfl) (by kernel_rfl) (by kernel_rfl) (fun _ _ _ h => h) (Or.inl ⟨by rfl, ?_⟩) (by assumption) ?_
          rotate_left 1
          · (intro W hSW; (try dsimp only at hSW); first | (go_simp; done) | (go_simp; with_reducible rfl))
          try simp only [Act.put, List.setIfInBounds_toArray, List.set_cons_zero, List.set_cons_succ]
          refine wpAnyH_take (i := 7) (oi := { dst := some 35, op := Op.load 25 (Operand.tmp 34), type := 25, pos := "ref.go:140", after := #[{ on := 6, ground := Ground.data }], guard := none }) (v := ?_) rfl (by kernel_rfl) (by kernel_rfl) (by kernel_rfl) (fun _ _ _ h => h) (Or.inl ⟨by rfl, ?_⟩) (by assumption) ?_
          rotate_left 1
          · (intro W hSW; (try dsimp only at hSW); first | (go_simp; done) | (go_simp; with_reducible rfl))
          try simp only [Act.put, List.setIfInBounds_toArray, List.set_cons_zero, List.set_cons_succ]
          refine wpAnyH_take (i := 8) (oi := { dst := some 36, op := Op.move (Operand.tmp 8), type := 3, pos := "ref.go:140", after := #[], guard := none }) (v := ?_) rfl (by kernel_rfl) (by kernel_rfl) (by kernel_rfl) (fun _ _ _ h => h) (Or.inl ⟨by rfl, ?_⟩) (by assumption) ?_
          rotate_left 1
          · (intro W hSW; (try dsimp only at hSW); first | (go_simp; done) | (go_simp; with_reducible rfl))
          try simp only [Act.put, List.setIfInBounds_toArray, List.set_cons_zero, List.set_cons_succ]
          refine wpAnyH_take (i := 9) (oi := { dst := some 37, op := Op.indexAddr 25 (Operand.tmp 35) (Operand.tmp 36), type := 0, pos := "ref.go:140", after := #[{ on := 7, ground := Ground.data }, { on := 8, ground := Ground.data }], guard := none }) (v := ?_) rfl (by kernel_rfl) (by kernel_rfl) (by kernel_rfl) (fun _ _ _ h => h) (Or.inl ⟨by rfl, ?_⟩) (by assumption) ?_
          rotate_left 1
          · (intro W hSW; (try dsimp only at hSW); first | (go_simp; done) | (go_simp; with_reducible rfl))
          try simp only [Act.put, List.setIfInBounds_toArray, List.set_cons_zero, List.set_cons_succ]
          refine wpAnyH_take (i := 10) (oi := { dst := some 38, op := Op.load 3 (Operand.tmp 37), type := 3, pos := "ref.go:140", after := #[{ on := 9, ground := Ground.data }], guard := none }) (v := ?_) rfl (by kernel_rfl) (by kernel_rfl) (by kernel_rfl) (fun _ _ _ h => h) (Or.inl ⟨by rfl, ?_⟩) (by assumption) ?_
          rotate_left 1
          · (intro W hSW; (try dsimp only at hSW); first | (go_simp; done) | (go_simp; with_reducible rfl))
          try simp only [Act.put, List.setIfInBounds_toArray, List.set_cons_zero, List.set_cons_succ]
          refine wpAnyH_take (i := 11) (oi := { dst := some 39, op := Op.build 34 #[(0, Operand.tmp 33), (1, Operand.tmp 38)], type := 34, pos := "ref.go:140", after := #[{ on := 5, ground := Ground.data }, { on := 10, ground := Ground.data }], guard := none }) (v := ?_) rfl (by kernel_rfl) (by kernel_rfl) (by kernel_rfl) (fun _ _ _ h => h) (Or.inl ⟨by rfl, ?_⟩) (by assumption) ?_
          rotate_left 1
          · (intro W hSW; (try dsimp only at hSW); first | (go_simp; done) | (go_simp; with_reducible rfl))
          try simp only [Act.put, List.setIfInBounds_toArray, List.set_cons_zero, List.set_cons_succ]
          refine wpAnyH_ready (rs := [12]) (by kernel_rfl) (by simp) ?_
          refine (AllReadyH.cons (o := { dst := some 40, op := Op.buildSlice 31 1 #[(0, Operand.tmp 39)], type := 31, pos := "ref.go:140", after := #[{ on := 11, ground := Ground.data }], guard := none }) rfl (fun K hK => ?_) AllReadyH.nil)
          rw [if_pos (by rfl)]
          go_simp
          have haA : wr.grownBy ((World.alloc wr (.cells #[.int .i64 x, .int .i64 (i : Int)] 34)).drew) none := (World.grownBy_alloc wr _ none).trans (grown_drew _ none)
          have hnA : ∀ j u, [Value.int .i64 x, Value.int .i64 (i : Int)][j]? = some u → ((World.alloc wr (.cells #[.int .i64 x, .int .i64 (i : Int)] 34)).drew).cell? ((⟨wr.heap.size, 0, none⟩ : Addr).add j) = some u := cell_two_new' wr _ _ _
          obtain ⟨WA, hWA⟩ : ∃ WA, (World.alloc wr (.cells #[.int .i64 x, .int .i64 (i : Int)] 34)).drew = WA := ⟨_, rfl⟩
          rw [hWA] at haA hnA ⊢
          clear hWA
          have hgA := World.grownBy.trans HI.out.2.1 haA
          refine hK.out _ _ (HSR.out _ hgA) (fun hHeld => ?_)
          clear hK K
          try simp only [Act.put, List.setIfInBounds_toArray, List.set_cons_zero, List.set_cons_succ]
          refine wpAnyH_ready (rs := [13]) (by kernel_rfl) (by simp) ?_
          refine (AllReadyH.cons (o := { dst := some 41, op := Op.call { callee := Callee.builtin Builtin.append, args := #[Operand.tmp 28, Operand.tmp 40], argTypes := #[31, 31] }, type := 31, pos := "ref.go:140", after := #[{ on := 0, ground := Ground.data }, { on := 12, ground := Ground.data }], guard := none }) rfl (fun K hK => ?_) AllReadyH.nil)
          refine ready_append_g 31 34 (.tmp 28) (.tmp 40) rfl rfl Try.underlying31 hi0 hz0 hz1 hz2 rfl (by decide) (by omega) W5.heap.size _ _ (prC L) rfl (own_grown HI.out.2.2 haA) ⟨wr.heap.size, 0, none⟩ [.int .i64 x, .int .i64 (i : Int)] rfl rfl hnA (fun u hu => by simp at hu; rcases hu with rfl | rfl <;> rfl) HP2.out hgA.size (fun v' w6 hown' hgrow6 hat6 => ?_)
          obtain ⟨rgA, rcA, rfl⟩ := own_shape hown'
          have hg6 := grown_own hgA hgrow6 (own_low HI.out.2.2)
          refine hK.out _ _ (HSR.out _ hg6) (fun hHeld => ?_)
          clear hK K
          try simp only [Act.put, List.setIfInBounds_toArray, List.set_cons_zero, List.set_cons_succ]
          refine wpAnyH_take (i := 14) (oi := { dst := some 7, op := Op.assign (Operand.tmp 41), type := 31, pos := "ref.go:140", after := #[{ on := 13, ground := Ground.data }, { on := 13, ground := Ground.chain }, { on := 0, ground := Ground.phase }, { on := 1, ground := Ground.phase }, { on := 2, ground := Ground.phase }, { on := 3, ground := Ground.phase }, { on := 4, ground := Ground.phase }, { on := 5, ground := Ground.phase }, { on := 6, ground := Ground.phase }, { on := 7, ground := Ground.phase }, { on := 8, ground := Ground.phase }, { on := 9, ground := Ground.phase }, { on := 10, ground := Ground.phase }, { on := 11, ground := Ground.phase }, { on := 12, ground := Ground.phase }, { on := 13, ground := Ground.phase }], guard := none }) (v := ?_) rfl (by kernel_rfl) (by kernel_rfl) (by kernel_rfl) (fun _ _ _ h => h) (Or.inl ⟨by rfl, ?_⟩) (by assumption) ?_
          rotate_left 1
          · (intro W hSW; (try dsimp only at hSW); first | (go_simp; done) | (go_simp; with_reducible rfl))
          try simp only [Act.put, List.setIfInBounds_toArray, List.set_cons_zero, List.set_cons_succ]
          refine wpAnyH_done (by kernel_rfl) ?_ _
          have hEND := hg6
          clear hHeld
          have HN9 := Lib.hid (And.intro hg6 hown')
          clear hnA haA hown' hgrow6 hat6 hHeld hEND hgA
          go_wp2_with fail
          go_roundg (tn - (k + 1))
          case measure => rw [HI.out.1]; omega
          case rel => exact ⟨k + 1, rgA, rcA, by rw [HK.out.1], rfl, rfl, by omega, HN9.out.1, by rw [HK.out.1, HK.out.2, prC_snoc]; exact HN9.out.2⟩
      · have hke : k = tn := by omega
        subst hke
        have f1 : decide (k < k) = false := by simp
        have hown := HI.out.2.2
        rw [List.take_of_length_le (by rw [HIM.out.1]; exact Nat.le_refl _)] at hown
        have HOWN := Lib.hid hown
        clear hown hi0 hz0 hz1 hz2
        go_wp2_with fail
        rw [← HP.out]
        exact ⟨oa, oc, by rw [HIM.out.1]; rfl, by rw [HIM.out.1]; exact own_lower HOWN.out HG5.out.size, World.grownBy.trans HG5.out HI.out.2.1⟩
end Go.Proofs.Ythkemajekkilmaa
/- The reference's Levels. -/
namespace Go.Proofs.Ythkemajekkilmaa
open Go.RowKit
set_option maxHeartbeats 16000000 in
set_option maxRecDepth 100000 in
theorem refLevels_calls (V : Nat) (C : List (List Int)) (ca : Option Addr) (cc : Nat) (A : List Int) (aa : Option Addr) (ac : Nat) (w : World) (h : ClsW w ca cc C) (hA : IntsW w aa ac A) (hV : V ≤ 8) (hC : C.length ≤ 1000) (hL : ∀ c ∈ C, c.length ≤ 100) (hR : Ran V C) (hAl : A.length ≤ 12) (hAr : ∀ x ∈ A, InR V x) :
    Calls Try.prog 19 #[.agg #[.int .i64 (V : Int), .slice ca C.length cc], .slice aa A.length ac] w fun e w' => ∃ a c, e = .returned (.slice a (levP V C A).length c) ∧ IntsW w' a c (levP V C A) ∧ w.grownBy w' none := by
  obtain ⟨n, hn⟩ : ∃ n, C.length = n := ⟨_, rfl⟩
  obtain ⟨an, han⟩ : ∃ n, A.length = n := ⟨_, rfl⟩
  obtain ⟨P, hP⟩ : ∃ P : Ending → World → Prop, (fun e w' => ∃ a c, e = .returned (.slice a (levP V C A).length c) ∧ IntsW w' a c (levP V C A) ∧ w.grownBy w' none) = P := ⟨_, rfl⟩
  have HP := Lib.hid hP
  rw [hP]
  obtain ⟨W1, hW1⟩ : ∃ z, w.alloc (.cells #[.int .i64 (V : Int), .slice ca n cc] 24) = z := ⟨_, rfl⟩
  obtain ⟨q0, q1, hg1⟩ := box_at w _ _ hW1
  obtain ⟨bf, hbf⟩ : ∃ z, w.heap.size = z := ⟨_, rfl⟩
  rw [hbf] at q0 q1
  have hcall := contradictory_calls A aa ac W1 (hA.grown hg1) (by omega) (fun x hx => by obtain ⟨_, a1, a2⟩ := hAr x hx; omega)
  have hrun := run_calls V C ca cc A aa ac W1 (h.grown hg1) (hA.grown hg1) (by omega) hC hL hR (by omega)
  rw [han] at hcall
  rw [hn, han] at hrun
  have HCA := Lib.hid hcall
  have HRUN := Lib.hid hrun
  have HG1 := Lib.hid hg1
  have HX := Lib.hid (And.intro hR hAl)
  have HC := Lib.hid (And.intro (h.grown hg1) hn)
  have HOC := Lib.hid (fun (hc : contraP A = false) => on_calls V C ca cc A hV hL hR hc hAl hAr)
  have HLV := Lib.hid (And.intro (lev_len hR A) (fun (j : Nat) (hj : j < (impP V C A).length) => lev_at hR A hj))
  have hv := hV
  rw [hn, han]
  clear h hA hL hR hAr hn han hg1 hC hP hcall hrun hAl
  go_enter Try.func19, Try.ntmps19
  go_wp2_with fail
  clear hW1 hbf
  refine HCA.out.mono ?_
  rintro e w3 ⟨rfl, hw3⟩
  rw [hw3]
  clear hw3 w3 HCA
  cases hcb : contraP A
  case true =>
    have e1 : levP V C A = [] := by
      have h1 := HLV.out.1
      rw [show impP V C A = [] from by unfold impP; rw [propP_contra hcb]; rfl] at h1
      exact List.eq_nil_of_length_eq_zero h1
    have HE := Lib.hid e1
    clear hcb e1
    go_wp2_with fail
    rw [← HP.out, HE.out]
    exact ⟨none, 0, rfl, ⟨Nat.le_refl _, .inl rfl⟩, HG1.out⟩
  case false =>
    go_wp2_with fail
    refine HRUN.out.mono ?_
    rintro e w4 ⟨la, lc, ra, rc, rfl, hl, hr, hg4⟩
    obtain ⟨tn, htn⟩ : ∃ n, (runT V C A).length = n := ⟨_, rfl⟩
    obtain ⟨m, hm⟩ : ∃ n, (uq A).length = n := ⟨_, rfl⟩
    have hlens := run_lens HX.out.1 hcb
    have hrn : (runR V C A).length = tn := by rw [← htn, hlens.1, hlens.2]
    have him : (levP V C A).length = tn - m := by rw [HLV.out.1]; have := hlens.1; omega
    have htn100 : tn ≤ 200 := by rw [← htn, hlens.1]; have h1 := uq_len A; have h2 := imp_le HX.out.1 A; have h3 := HX.out.2; omega
    have HAT : Hid (∀ k, k < tn → (k < m ∧ (runR V C A)[k]? = some (-1)) ∨ (m ≤ k ∧ ∃ (i : Nat), (runR V C A)[k]? = some (i : Int) ∧ (levP V C A)[k - m]? = some ((onP V C A k).length : Int))) := Lib.hid (fun k hk => by
      rcases run_at HX.out.1 hcb (k := k) (by rw [htn]; exact hk) with ⟨h1, h2, _⟩ | ⟨h1, x, i, h2, h3, h4, _⟩
      · exact .inl ⟨by omega, h2⟩
      · exact .inr ⟨by omega, i, h3, by
          have h5 := HLV.out.2 (k - (uq A).length) ((List.getElem?_eq_some_iff.1 h4).1)
          rw [← hm, h5, show (uq A).length + (k - (uq A).length) = k from by omega]⟩)
    obtain ⟨kf, hkf⟩ : ∃ k, runK V C A = k := ⟨_, rfl⟩
    have HKF := Lib.hid (show cfP V C A = kf from by rw [(run_prop V C hcb).2.2.2, hkf])
    obtain ⟨W5, hW5⟩ : ∃ z, w4.alloc (.cells #[.slice la tn lc, .slice ra tn rc, .int .i64 kf] 57) = z := ⟨_, rfl⟩
    obtain ⟨t0, t1, t2, _, hg5⟩ := cell_three_new w4 _ _ _ 57 hW5
    obtain ⟨bt, hbt⟩ : ∃ z, w4.heap.size = z := ⟨_, rfl⟩
    rw [hbt] at t0 t1 t2
    rw [htn, hrn, hkf]
    have HG5 := Lib.hid (World.grownBy.trans HG1.out (World.grownBy.trans hg4 hg5))
    have HL := Lib.hid (And.intro (hl.grown hg5) (hr.grown hg5))
    have HC5 := Lib.hid (HC.out.1.grown (World.grownBy.trans hg4 hg5))
    have HO := Lib.hid (fun (k : Nat) (hk : k < tn) (W : World) (hW : W5.grownBy W none) => by
      have h1 := HOC.out hcb la lc ra rc kf k (by rw [htn]; exact hk) W (HC5.out.grown hW) (HL.out.1.grown hW) (HL.out.2.grown hW)
      rw [HC.out.2, htn, hrn] at h1
      exact h1)
    have HLEN := Lib.hid (fun k => Nat.le_trans (on_len HX.out.1 hcb k) HX.out.2)
    have HT := Lib.hid (And.intro t0 (And.intro t1 t2))
    have HQ5 := Lib.hid (And.intro (hg5.cell (hg4.cell q0 (by simp)) (by simp)) (hg5.cell (hg4.cell q1 (by simp)) (by simp)))
    have HIM := Lib.hid (And.intro him hm)
    clear hl hr hg4 hg5 hlens hrn him htn hcb hkf HRUN q0 q1
    go_wp2_with fail
    clear hW5 hbt t0 t1 t2
    obtain ⟨i0', hi0, hz0, hz1, hz2⟩ := info_parts info3
    go_loopg [7, 8] tn (fun gk s8 s9 wr => ∃ (k : Nat) (oa : Option Addr) (oc : Nat), s8 = .slice oa (k - m) oc ∧ s9 = .int .i64 (k : Int) ∧ gk = tn - k ∧ k ≤ tn ∧ W5.grownBy wr none ∧ wr.ownsRow W5.heap.size 3 1 (.slice oa (k - m) oc) (k - m) (intCells ((levP V C A).take (k - m))))
    case atStart => exact ⟨0, none, 0, by rw [Nat.zero_sub], rfl, rfl, Nat.zero_le _, grown_refl _ _, by rw [Nat.zero_sub]; exact ⟨rfl, .inl ⟨rfl, rfl⟩⟩⟩
    case round =>
      obtain ⟨k, oa, oc, rfl, rfl, hgk, hk, hg, hown⟩ := hrel
      have HI := Lib.hid (And.intro hgk (And.intro hg hown))
      have t0 := hg.cell HT.out.1 (by simp)
      have t1 := hg.cell HT.out.2.1 (by simp)
      have t2 := hg.cell HT.out.2.2 (by simp)
      clear hgk hg hown
      by_cases hkt : k < tn
      · have f1 : decide ((k : Int) < (tn : Int)) = true := decide_eq_true (by omega)
        have f1' : decide (k < tn) = true := decide_eq_true hkt
        have j0 : (0 : Int) ≤ (k : Int) := by omega
        have j1 : (k : Int) < (tn : Int) := by omega
        have k1 : IntKind.i64.wrap ((k : Int) + 1) = (k : Int) + 1 := IntWalk.i64_in _ (by omega)
        rcases HAT.out k hkt with ⟨h1, h2⟩ | ⟨h1, i, h3, h4⟩
        · obtain ⟨b2, o2, e2, c2⟩ := (HL.out.2.grown HI.out.2.1).at h2
          subst e2
          have HK := Lib.hid (show k + 1 - m = k - m from by omega)
          clear h1 h2
          go_wp2_with fail
          go_roundg (tn - (k + 1))
          case measure => rw [HI.out.1]; omega
          case rel => exact ⟨k + 1, oa, oc, by rw [HK.out], rfl, rfl, by omega, HI.out.2.1, by rw [HK.out]; exact HI.out.2.2⟩
        · obtain ⟨b2, o2, e2, c2⟩ := (HL.out.2.grown HI.out.2.1).at h3
          subst e2
          obtain ⟨p, hp⟩ : ∃ p, k - m = p := ⟨_, rfl⟩
          rw [hp] at HI h4 ⊢
          have nn : decide ((0 : Int) ≤ (i : Int)) = true := decide_eq_true (by omega)
          have HK := Lib.hid (And.intro (show k + 1 - m = p + 1 from by omega) (take_snoc h4))
          have hp200 : p ≤ 200 := by omega
          obtain ⟨L, hL⟩ : ∃ L, (levP V C A).take p = L := ⟨_, rfl⟩
          rw [hL] at HI HK
          have q0 := HI.out.2.1.cell HQ5.out.1 (by simp)
          have q1 := HI.out.2.1.cell HQ5.out.2 (by simp)
          have hcall := HO.out k hkt wr HI.out.2.1
          obtain ⟨on, hon⟩ : ∃ n, (onP V C A k).length = n := ⟨_, rfl⟩
          have hon12 : on ≤ 12 := by rw [← hon]; exact HLEN.out k
          rw [hon] at hcall HK
          have HCALL := Lib.hid hcall
          clear h1 h3 h4 hp hL hcall hon
          go_wp2_with fail
          refine HCALL.out.mono ?_
          rintro e wo ⟨pa, pc, rfl, _, hgo⟩
          have HGO := Lib.hid (And.intro (World.grownBy.trans HI.out.2.1 hgo) (own_grown HI.out.2.2 hgo))
          have hsz : W5.heap.size ≤ wo.heap.size := HGO.out.1.size
          clear hgo HCALL q0 q1 t0 t1 t2 c2
          go_wp2_with (at_builtin; refine wpList_append_own_at _ rfl _ _ 25 rfl W5.heap.size 3 i0' (.int .i64 0) 1 8 Try.underlying25 hi0 hz0 hz1 hz2 rfl (by decide) _ p (intCells L) rfl (HGO.out.2.alloc _) ⟨wo.heap.size, 0, none⟩ 1 1 [.int .i64 (on : Int)] rfl rfl (cell_one_new _ _ _) (fun u hu => by simp at hu; subst hu; rfl) (by unfold maxLen; omega) (by omega) (by simp; omega) ?_)
          intro v9 w9 hown9 hgrow9 _ _
          obtain ⟨sa, sc, rfl⟩ := own_shape hown9
          have HN9 := Lib.hid (And.intro (grown_own HGO.out.1 ((World.grownBy_alloc wo _ _).trans hgrow9) (own_low HGO.out.2)) hown9)
          clear hown9 hgrow9
          go_wp2_with fail
          go_roundg (tn - (k + 1))
          case measure => rw [HI.out.1]; omega
          case rel => exact ⟨k + 1, sa, sc, by rw [HK.out.1], rfl, rfl, by omega, HN9.out.1, by rw [HK.out.1, HK.out.2, intCells, List.map_append]; exact HN9.out.2⟩
      · have hke : k = tn := by omega
        subst hke
        have f1 : decide (k < k) = false := by simp
        have hown := HI.out.2.2
        rw [List.take_of_length_le (by rw [HIM.out.1]; exact Nat.le_refl _)] at hown
        have HOWN := Lib.hid hown
        clear hown hi0 hz0 hz1 hz2
        go_wp2_with fail
        rw [← HP.out]
        exact ⟨oa, oc, by rw [HIM.out.1]; rfl, (own_ints HOWN.out).2, World.grownBy.trans HG5.out HI.out.2.1⟩
end Go.Proofs.Ythkemajekkilmaa
/- The law on reasons: the plain side, and its rows in memory. -/
namespace Go.Proofs.Ythkemajekkilmaa
open Go.RowKit
theorem der_on {V : Nat} {C : List (List Int)} (hR : Ran V C) {A : List Int} (h : contraP A = false) : ∀ (k : Nat) (p : Int × List Int), (depF V C A)[k]? = some p → Der C p.2 p.1 := by
  intro k
  induction k using Nat.strongRecOn with
  | ind k ih =>
    intro p hp
    have hk : k < (runT V C A).length := by rw [← dep_len hR h]; exact (List.getElem?_eq_some_iff.1 hp).1
    rcases run_at hR h hk with ⟨h1, _, _⟩ | ⟨h1, x, i, h2, _, h4, h5, hi⟩
    · obtain ⟨x, hx⟩ : ∃ x, (uq A)[k]? = some x := ⟨_, List.getElem?_eq_getElem h1⟩
      rw [on_lo hx] at hp
      injection hp with hp
      subst hp
      exact .ass x (by simp)
    · have h6 := on_hi h4 h5
      rw [show (uq A).length + (k - (uq A).length) = k from by omega, hp] at h6
      injection h6 with h6
      subst h6
      obtain ⟨l, qs, kf, e, hs, _⟩ := propP_spec hR h
      have hl : impP V C A = l := by unfold impP; rw [e]; simp
      have hq : (propP V C A).2.2.1 = qs := by rw [e]
      rw [hl] at h4
      rw [hq] at h5
      obtain ⟨i', e1, e2, h7⟩ := steps_at l qs _ hs _ x (i : Int) h4 h5
      obtain rfl : i = i' := by omega
      obtain ⟨z, hz⟩ : ∃ z, C[i]? = some z := ⟨_, List.getElem?_eq_getElem hi⟩
      have hxz : x ∈ C.getD i [] := by
        have : ∀ (l qs tr : List Int) (j : Nat), Steps C tr l qs → l[j]? = some x → qs[j]? = some (i : Int) → x ∈ C.getD i [] := by
          intro l
          induction l with
          | nil => intro qs tr j _ hx; simp at hx
          | cons x0 l ihl =>
            intro qs tr j hs hx hr
            match qs, hs with
            | q0 :: qs, hs =>
              obtain ⟨⟨i0, a1, _, _, a4⟩, a5⟩ := hs
              match j, hx, hr with
              | 0, hx, hr =>
                simp at hx hr
                subst hx hr
                obtain rfl : i = i0 := by omega
                exact List.mem_of_find?_eq_some a4
              | j + 1, hx, hr =>
                simp at hx hr
                exact ihl qs _ j a5 hx hr
        exact this l qs _ _ hs h4 h5
      refine .imp (C.getD i []) x (by rw [getD_of hz]; exact List.mem_of_getElem? hz) hxz fun y hy hne => ?_
      have hkey := h7 y hy hne
      have hkeys : ((depF V C A).take k).map Prod.fst = (runT V C A).take k := by rw [List.map_take, dep_keys hR h]
      have hin : -y ∈ ((depF V C A).take k).map Prod.fst := by
        rw [hkeys, run_tr hR h, hl, List.take_append, List.take_of_length_le h1]
        exact hkey
      obtain ⟨q, hq1, hq2⟩ := List.mem_map.1 hin
      obtain ⟨j, hj⟩ := List.mem_iff_getElem?.1 hq1
      have hj2 := hj
      rw [List.getElem?_take] at hj
      split at hj
      · rename_i hlt
        have h8 := ih j hlt q hj
        have h9 := setAt_some (by rw [hkeys]; exact take_nodup (run_nodup hR h) k) hj2
        rw [hq2] at h8 h9
        refine Der.mono (fun c hc => hc) (fun u hu => .ass u ?_) h8
        rw [mem_restOn]
        exact ⟨y, hy, hne, by rw [h9]; exact hu⟩
      · cases hj
/-- What stands beside each literal of the law's trail. -/
def onL (V : Nat) (C : List (List Int)) (A : List Int) (n : Nat) : List (List Int) := A.map (fun a => [a]) ++ (List.range n).map fun j => onP V C A ((uq A).length + j)
theorem onL_len (V : Nat) (C : List (List Int)) (A : List Int) (n : Nat) : (onL V C A n).length = A.length + n := by unfold onL; rw [List.length_append, List.length_map, List.length_map, List.length_range]
theorem onL_succ (V : Nat) (C : List (List Int)) (A : List Int) (n : Nat) : onL V C A (n + 1) = onL V C A n ++ [onP V C A ((uq A).length + n)] := by unfold onL; rw [List.range_succ, List.map_append, ← List.append_assoc]; rfl
theorem onL_at {V : Nat} {C : List (List Int)} (hR : Ran V C) {A : List Int} (h : contraP A = false) {n k : Nat} {u : Int} (hn : n ≤ (impP V C A).length) (hu : (A ++ (impP V C A).take n)[k]? = some u) :
    (onL V C A n)[k]? = some (setAt ((depF V C A).take ((uq A).length + n)) u) := by
  have hkeys : ((depF V C A).take ((uq A).length + n)).map Prod.fst = (runT V C A).take ((uq A).length + n) := by rw [List.map_take, dep_keys hR h]
  have hnd : (((depF V C A).take ((uq A).length + n)).map Prod.fst).Nodup := by rw [hkeys]; exact take_nodup (run_nodup hR h) _
  unfold onL
  by_cases hk : k < A.length
  · rw [List.getElem?_append_left hk] at hu
    rw [List.getElem?_append_left (by rw [List.length_map]; exact hk), List.getElem?_map, hu]
    obtain ⟨j, hj⟩ := List.mem_iff_getElem?.1 ((mem_uq A u).2 (List.mem_of_getElem? hu))
    have hjl := (List.getElem?_eq_some_iff.1 hj).1
    have h1 := on_lo (V := V) (C := C) hj
    have h2 : ((depF V C A).take ((uq A).length + n))[j]? = some (u, [u]) := by rw [List.getElem?_take, if_pos (by omega), h1]
    have h3 := setAt_some hnd h2
    simp only at h3
    rw [h3]
    rfl
  · rw [List.getElem?_append_right (by omega)] at hu
    have hjn : k - A.length < n := by
      have := (List.getElem?_eq_some_iff.1 hu).1
      rw [List.length_take] at this
      omega
    rw [List.getElem?_take, if_pos hjn] at hu
    rw [List.getElem?_append_right (by rw [List.length_map]; omega), List.length_map, List.getElem?_map, List.getElem?_range hjn]
    obtain ⟨r, hr⟩ : ∃ r, (propP V C A).2.2.1[k - A.length]? = some r := ⟨_, List.getElem?_eq_getElem (by rw [← imp_len hR A]; omega)⟩
    obtain ⟨_, _, _, _, h5⟩ := lev_facts hR (A := A)
    obtain ⟨i, hi, hi2, _⟩ := h5 _ u r hu hr
    subst hi
    have h1 := on_hi hu hr
    have h2 : ((depF V C A).take ((uq A).length + n))[(uq A).length + (k - A.length)]? = some (u, restOn ((depF V C A).take ((uq A).length + (k - A.length))) u (C.getD i [])) := by rw [List.getElem?_take, if_pos (by omega), h1]
    have h3 := setAt_some hnd h2
    simp only at h3
    rw [h3]
    simp only [Option.map_some]
    congr 1
    unfold onP
    rw [List.getD_eq_getElem?_getD, h1]
    rfl
theorem onL_short {V : Nat} {C : List (List Int)} (hR : Ran V C) {A : List Int} (h : contraP A = false) {n : Nat} {m : Nat} (hA : A.length ≤ m) (h1 : 1 ≤ m) : ∀ l ∈ onL V C A n, l.length ≤ m := by
  intro l hl
  rcases List.mem_append.1 hl with hl | hl
  · obtain ⟨a, _, rfl⟩ := List.mem_map.1 hl
    exact h1
  · obtain ⟨j, _, rfl⟩ := List.mem_map.1 hl
    exact Nat.le_trans (on_len hR h _) hA
/-- What the law meets at a literal. -/
theorem law7 {V : Nat} {C : List (List Int)} (hR : Ran V C) {A : List Int} (h : contraP A = false) {n : Nat} {x r : Int} (hx : (impP V C A)[n]? = some x) (hr : (propP V C A).2.2.1[n]? = some r) :
    ∃ i : Nat, r = (i : Int) ∧ i < C.length ∧ x ∈ C.getD i [] ∧ onP V C A ((uq A).length + n) = restOn ((depF V C A).take ((uq A).length + n)) x (C.getD i []) ∧ (∀ y ∈ C.getD i [], y ≠ x → -y ∈ A ++ (impP V C A).take n) ∧
      (∀ z ∈ onP V C A ((uq A).length + n), z ∈ A) ∧ (cfP V C (onP V C A ((uq A).length + n)) = -1 → x ∈ impP V C (onP V C A ((uq A).length + n))) := by
  obtain ⟨l, qs, kf, e, hs, _⟩ := propP_spec hR h
  have hl : impP V C A = l := by unfold impP; rw [e]; simp
  have hq : (propP V C A).2.2.1 = qs := by rw [e]
  have hx' := hx
  have hr' := hr
  rw [hl] at hx'
  rw [hq] at hr'
  obtain ⟨i, e1, e2, h7⟩ := steps_at l qs _ hs n x r hx' hr'
  subst e1
  have h1 := on_hi hx hr
  have hon : onP V C A ((uq A).length + n) = restOn ((depF V C A).take ((uq A).length + n)) x (C.getD i []) := by
    unfold onP
    rw [List.getD_eq_getElem?_getD, h1]
    rfl
  have hsub : ∀ z ∈ onP V C A ((uq A).length + n), z ∈ A := fun z hz => by
    unfold onP at hz
    rw [List.getD_eq_getElem?_getD, h1] at hz
    exact on_sub hR h _ _ h1 z hz
  have hd := der_on hR h _ _ h1
  refine ⟨i, rfl, e2, ?_, hon, fun y hy hne => ?_, hsub, fun hc => ?_⟩
  · have : ∀ (l qs tr : List Int) (j : Nat), Steps C tr l qs → l[j]? = some x → qs[j]? = some (i : Int) → x ∈ C.getD i [] := by
      intro l
      induction l with
      | nil => intro qs tr j _ hx; simp at hx
      | cons x0 l ihl =>
        intro qs tr j hs hx hr
        match qs, hs with
        | q0 :: qs, hs =>
          obtain ⟨⟨i0, a1, _, _, a4⟩, a5⟩ := hs
          match j, hx, hr with
          | 0, hx, hr =>
            simp at hx hr
            subst hx hr
            obtain rfl : i = i0 := by omega
            exact List.mem_of_find?_eq_some a4
          | j + 1, hx, hr =>
            simp at hx hr
            exact ihl qs _ j a5 hx hr
    exact this l qs _ _ hs hx' hr'
  · rcases List.mem_append.1 (h7 y hy hne) with h8 | h8
    · exact List.mem_append_left _ ((mem_uq A _).1 h8)
    · exact List.mem_append_right _ (by rw [hl]; exact h8)
  · rw [imp_mem hR hc]
    refine ⟨?_, fun hm => ?_⟩
    · rw [hon]; exact hd
    · have h9 := hsub x hm
      obtain ⟨_, h10⟩ := steps_new l qs _ hs
      exact h10 x (List.mem_of_getElem? hx') ((mem_uq A x).2 h9)
theorem fnd_cases (L : List Int) (x : Int) : (fnd L x = -1 ∧ x ∉ L) ∨ ∃ i : Nat, fnd L x = (i : Int) ∧ L[i]? = some x := by
  unfold fnd
  cases h : L.findIdx? (fun y => y == x) with
  | none =>
    left
    refine ⟨rfl, fun hm => ?_⟩
    have := (List.findIdx?_eq_none_iff.1 h) x hm
    simp at this
  | some i =>
    right
    obtain ⟨hi, hy, _⟩ := List.findIdx?_eq_some_iff_getElem.1 h
    exact ⟨i, rfl, by rw [List.getElem?_eq_getElem hi]; simpa using hy⟩
theorem fnd_step {T : List Int} {p : Nat} {u : Int} (hu : T[p]? = some u) (x : Int) : fnd (T.take (p + 1)) x = if fnd (T.take p) x < 0 then (if u = x then (p : Int) else -1) else fnd (T.take p) x := by
  rw [take_snocG hu]
  rcases fnd_cases (T.take p) x with ⟨h1, h2⟩ | ⟨i, h1, h2⟩
  · rw [h1, if_pos (by decide)]
    have hp : p ≤ T.length := Nat.le_of_lt (List.getElem?_eq_some_iff.1 hu).1
    have hl : (T.take p).length = p := by rw [List.length_take]; omega
    by_cases e : u = x
    · rw [if_pos e]
      refine fnd_some ?_ ?_
      · rw [List.getElem?_append_right (by omega), hl, Nat.sub_self, e]; rfl
      · rw [List.take_append_of_le_length (by omega), List.take_of_length_le (by omega)]; exact h2
    · rw [if_neg e]
      refine fnd_none ?_
      simp only [List.mem_append, List.mem_singleton, not_or]
      exact ⟨h2, fun e2 => e e2.symm⟩
  · rw [h1, if_neg (by omega)]
    unfold fnd at h1 ⊢
    rw [List.findIdx?_append]
    cases h : (T.take p).findIdx? (fun y => y == x) with
    | none => rw [h] at h1; simp only at h1; omega
    | some i' => rw [h] at h1; simp only at h1; simp only [Option.or]; exact h1
/-- A row of rows that are made, none of them in a given block. -/
def OCn (B : Nat) (w : World) (a : Option Addr) (c n : Nat) (zs : List (List Int)) (tb : Option Nat) : Prop :=
  zs.length = n ∧ ∃ vs : List Value, w.ownsRow B 25 1 (.slice a n c) n vs ∧ ∀ (i : Nat) (z : List Int), zs[i]? = some z → ∃ a' c', vs[i]? = some (.slice a' z.length c') ∧ w.ownsRow B 3 1 (.slice a' z.length c') z.length (intCells z) ∧ ∀ b, (Value.slice a' z.length c').ownBlock = some b → tb ≠ some b
theorem OCn.grown {B : Nat} {w w' : World} {a : Option Addr} {c n : Nat} {zs : List (List Int)} {tb : Option Nat} (h : OCn B w a c n zs tb) (hg : w.grownBy w' none) : OCn B w' a c n zs tb := by
  obtain ⟨h1, vs, h2, h3⟩ := h
  refine ⟨h1, vs, own_grown h2 hg, fun i z hz => ?_⟩
  obtain ⟨a', c', h4, h5, h6⟩ := h3 i z hz
  exact ⟨a', c', h4, own_grown h5 hg, h6⟩
theorem OCn.at {B : Nat} {w : World} {a : Option Addr} {c n : Nat} {zs : List (List Int)} {tb : Option Nat} (h : OCn B w a c n zs tb) {i : Nat} {z : List Int} (hz : zs[i]? = some z) : ∃ g a' c', a = some ⟨g, 0, none⟩ ∧ w.cell? ⟨g, i, none⟩ = some (.slice a' z.length c') ∧ IntsW w a' c' z := by
  obtain ⟨h1, vs, h2, h3⟩ := h
  obtain ⟨a', c', h4, h5, _⟩ := h3 i z hz
  have hi := (List.getElem?_eq_some_iff.1 hz).1
  rcases h2.2 with ⟨_, h0⟩ | ⟨g, cap, cur, e, _⟩
  · omega
  · injection e with e1 _ e3
    subst e1 e3
    exact ⟨g, a', c', rfl, (World.ownsRow.cellAt h2 i (by omega)).trans h4, (own_ints h5).2⟩
theorem OCn.trail {B B' : Nat} {w w' : World} {a : Option Addr} {c n : Nat} {zs : List (List Int)} {tv tv' : Value} {m : Nat} {xs : List Value} (h : OCn B w a c n zs tv.ownBlock) (ht : w.ownsRow B' 3 1 tv m xs) (hg : w.grownBy w' tv.ownBlock) (hat : tv'.ownBlock = tv.ownBlock ∨ ∃ b, tv'.ownBlock = some b ∧ w.heap.size ≤ b) : OCn B w' a c n zs tv'.ownBlock := by
  obtain ⟨h1, vs, h2, h3⟩ := h
  refine ⟨h1, vs, h2.kept hg (own_kinds h2 ht (by decide)), fun i z hz => ?_⟩
  obtain ⟨a', c', h4, h5, h6⟩ := h3 i z hz
  refine ⟨a', c', h4, h5.kept hg (by
    cases hv : (Value.slice a' z.length c').ownBlock with
    | none => exact .inl rfl
    | some b => exact .inr (fun e => h6 b hv e.symm)), fun b hb => ?_⟩
  rcases hat with e | ⟨b', e, hle⟩
  · rw [e]; exact h6 b hb
  · rw [e]
    intro e2
    cases e2
    have : b < w.heap.size := by
      rcases h5.2 with ⟨e3, _⟩ | ⟨g, cap, cur, e3, _, hc, _⟩
      · rw [e3] at hb; cases hb
      · rw [e3] at hb; cases hb; exact (Array.getElem?_eq_some_iff.1 hc).1
    omega
theorem OCn.push {B : Nat} {w w' : World} {a : Option Addr} {c n : Nat} {zs : List (List Int)} {tb : Option Nat} (h1 : zs.length = n) {z : List Int} {a' : Option Addr} {c' : Nat} (hz : w.ownsRow B 3 1 (.slice a' z.length c') z.length (intCells z)) (hzb : ∀ b, (Value.slice a' z.length c').ownBlock = some b → tb ≠ some b) {ra : Option Addr} {rc : Nat}
    {vs : List Value} (h2 : w.ownsRow B 25 1 (.slice a n c) n vs) (hv : ∀ (i : Nat) (z : List Int), zs[i]? = some z → ∃ a' c', vs[i]? = some (.slice a' z.length c') ∧ w.ownsRow B 3 1 (.slice a' z.length c') z.length (intCells z) ∧ ∀ b, (Value.slice a' z.length c').ownBlock = some b → tb ≠ some b)
    (hown : w'.ownsRow B 25 1 (.slice ra (n + 1) rc) (n + 1) (vs ++ [.slice a' z.length c'])) (hg : w.grownBy w' (Value.slice a n c).ownBlock) : OCn B w' ra rc (n + 1) (zs ++ [z]) tb := by
  have hvl : vs.length = n := by have := h2.1; omega
  refine ⟨by rw [List.length_append, h1]; rfl, _, hown, fun i y hy => ?_⟩
  rw [List.getElem?_append] at hy
  split at hy
  · rename_i hlt
    obtain ⟨a1, c1, h4, h5, h6⟩ := hv i y hy
    exact ⟨a1, c1, by rw [List.getElem?_append_left (by omega)]; exact h4, h5.kept hg (own_kinds h5 h2 (by decide)), h6⟩
  · rename_i hge
    have hi : i - zs.length = 0 := by
      have := (List.getElem?_eq_some_iff.1 hy).1
      simp at this
      omega
    rw [hi] at hy
    simp at hy
    subst hy
    exact ⟨a', c', by rw [List.getElem?_append_right (by omega), show i - vs.length = 0 from by omega]; rfl, hz.kept hg (own_kinds hz h2 (by decide)), hzb⟩
end Go.Proofs.Ythkemajekkilmaa
