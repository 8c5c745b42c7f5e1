/- The shortest model with the same trace. -/
import Derived.Test.YtbddpjofhddilaaNSD
namespace Go.Proofs.Ytbddpjofhddilaa
open Go.RowKit

theorem results30 (tmps : Array Value) (w : World) (b : Nat) (a : Option Addr) (n c : Nat) (a2 : Option Addr) (n2 c2 : Nat) (x y : Int) (ht : tmps.getD 2 undef = .pointer (some ⟨b, 0, none⟩)) (h0 : w.cell? ⟨b, 0, none⟩ = some (.slice a n c)) (h1 : w.cell? ⟨b, 1, none⟩ = some (.int .i64 x))
    (h2 : w.cell? ⟨b, 2, none⟩ = some (.slice a2 n2 c2)) (h3 : w.cell? ⟨b, 3, none⟩ = some (.int .i64 y)) :
    (results Try.f30 tmps).run Try.prog w = .ok (.agg #[.slice a n c, .int .i64 x, .slice a2 n2 c2, .int .i64 y]) w := by
  have ht' : tmps[2]?.getD undef = .pointer (some ⟨b, 0, none⟩) := by simpa using ht
  simp [results, ht', go_sem, h0, h1, h2, h3, Result.andThen]

set_option maxRecDepth 100000 in
set_option maxHeartbeats 8000000 in
theorem shorten_calls (us : List Int) (sa : Option Addr) (sc : Nat) (st : Int) (ta : Option Addr) (L : List (List Rl)) (tc p : Nat) (w : World) (h : IntsW w sa sc us) (hT : Sts w ta tc L) (hus : us.length ≤ 100000) (hpk : p < L.length) (hk64 : L.length ≤ 64)
    (hr : ∀ l ∈ L, l.length ≤ 10 ∧ ∀ r ∈ l, r.2.length ≤ 200) :
    Calls Try.prog 30 #[.agg #[.slice sa us.length sc, .int .i64 st, .slice ta L.length tc, .int .i64 (p : Int)]] w fun e w' =>
      ∃ a c a' c', e = .returned (.agg #[.slice a us.length c, .int .i64 (shLoop L p + shPer L p : Nat), .slice a' (shSts L p).length c', .int .i64 (shLoop L p : Nat)]) ∧
        Span w.heap.size w'.heap.size w' (fun W => Ints W a c us ∧ Sts W a' c' (shSts L p)) ∧ w.grownBy w' none := by
  have HLO := Lib.hid (fun (W' : World) => looped_calls sa us.length sc st ta L.length tc p W')
  rw [show loopedB L.length (p : Int) = true from loopedB_iff.2 (by omega)] at HLO
  obtain ⟨n, hn⟩ : ∃ n, us.length = n := ⟨_, rfl⟩
  obtain ⟨k, hk⟩ : ∃ k, L.length = k := ⟨_, rfl⟩
  have HN := Lib.hid (And.intro hn hk)
  have HX := Lib.hid (And.intro h (And.intro hT (And.intro hus hr))); clear h hT hus hr
  rw [hn, hk] at HLO
  rw [hk] at hpk hk64
  rw [hn, hk]
  clear hn hk
  have hg : w.grownBy ((w.alloc (.cells #[.slice sa n sc, .int .i64 st, .slice ta k tc, .int .i64 p] 33)).alloc (.cells #[.slice none 0 0, .int .i64 0, .slice none 0 0, .int .i64 0] 33)) none := (World.grownBy_alloc _ _ none).trans (World.grownBy_alloc _ _ none)
  have hc := eight_cells w (.slice sa n sc) (.int .i64 st) (.slice ta k tc) (.int .i64 p) (.slice none 0 0) (.int .i64 0) (.slice none 0 0) (.int .i64 0) 33 33
  have hsz : ((w.alloc (.cells #[.slice sa n sc, .int .i64 st, .slice ta k tc, .int .i64 p] 33)).alloc (.cells #[.slice none 0 0, .int .i64 0, .slice none 0 0, .int .i64 0] 33)).heap.size = w.heap.size + 2 := by simp
  have hfz : ∀ o, ((w.alloc (.cells #[.slice sa n sc, .int .i64 st, .slice ta k tc, .int .i64 p] 33)).alloc (.cells #[.slice none 0 0, .int .i64 0, .slice none 0 0, .int .i64 0] 33)).frozen? ⟨w.heap.size + 1, o, none⟩ = false := fun o => by go_simp
  obtain ⟨W, hW⟩ : ∃ W, (w.alloc (.cells #[.slice sa n sc, .int .i64 st, .slice ta k tc, .int .i64 p] 33)).alloc (.cells #[.slice none 0 0, .int .i64 0, .slice none 0 0, .int .i64 0] 33) = W := ⟨_, rfl⟩
  rw [hW] at hg hc hsz hfz
  obtain ⟨⟨c0, c1, c2, c3⟩, d0, d1, d2, d3⟩ := hc
  have HBX := Lib.hid (fun (W' : World) (hW' : W.grownBy W' none) => And.intro ((⟨c0, c1, c2, c3⟩ : Box W w.heap.size sa n sc st ta k tc p).grown hW') ((⟨d0, d1, d2, d3⟩ : Box W (w.heap.size + 1) none 0 0 0 none 0 0 0).grown hW'))
  have HFZ := Lib.hid (And.intro hsz hfz); clear hsz hfz
  have HG := Lib.hid hg; clear hg
  go_enter Try.func30, Try.ntmps30
  go_wp2_with fail
  clear hW
  refine (HLO.out _).mono ?_
  rintro e W1 ⟨rfl, g1⟩
  have HG1 := Lib.hid g1; clear g1 c0 c1 c2 c3 d0 d1 d2 d3
  have hg := World.grownBy_alloc W1 (.cells #[.func (.func 83) #[] #[.pointer (some ⟨w.heap.size, 0, none⟩)]] 99) none
  have hf : (W1.alloc (.cells #[.func (.func 83) #[] #[.pointer (some ⟨w.heap.size, 0, none⟩)]] 99)).cell? ⟨W1.heap.size, 0, none⟩ = some (.func (.func 83) #[] #[.pointer (some ⟨w.heap.size, 0, none⟩)]) := by go_simp
  obtain ⟨f, hff⟩ : ∃ f, W1.heap.size = f := ⟨_, rfl⟩
  rw [hff] at hf
  have hf0 : W1.heap.size = f := hff
  obtain ⟨V, hV⟩ : ∃ V, W1.alloc (.cells #[.func (.func 83) #[] #[.pointer (some ⟨w.heap.size, 0, none⟩)]] 99) = V := ⟨_, rfl⟩
  rw [hV] at hg hf
  have HG2 := Lib.hid (HG1.out.trans hg); clear hg
  have HF0 := Lib.hid hff; clear hff
  obtain ⟨⟨c0, c1, c2, c3⟩, d0, d1, d2, d3⟩ := HBX.out V HG2.out
  have HF := Lib.hid (fun (W' : World) (hW' : V.grownBy W' none) => hW'.cell hf (by simp))
  obtain ⟨q, hq⟩ : ∃ q, k - p = q := ⟨_, rfl⟩
  have hqI : (k : Int) - (p : Int) = (q : Int) := by omega
  have hq1 : 1 ≤ q := by omega
  have hq64 : q ≤ 64 := by omega
  have HST : Hid (Sts V ta tc L) := Lib.hid (HX.out.2.1.grown (HG.out.trans HG2.out))
  have HPER := Lib.hid (period_calls (sameAt (trL L p) p) q f w.heap.size V hq64 hq1 (fun i j W' hi hj hW' => by
    have hb := (HBX.out W' (HG2.out.trans hW')).1
    rw [← HN.out.2] at hb
    have key : ∀ i, i < q → L[p + i]? = some (trL L p (p + i)) := fun i hi => by
      rw [trL_lt (by rw [HN.out.2]; omega), List.getD_eq_getElem?_getD, List.getElem?_eq_getElem (by rw [HN.out.2]; omega)]; rfl
    exact short2_calls sa n sc st ta L tc p i j w.heap.size f _ _ W' hb (HF.out W' hW') (HST.out.grown hW') (key i hi) (key j hj) (small_lens (by rw [HN.out.2]; exact hk64) HX.out.2.2.2) (by rw [HN.out.2]; exact hk64)))
  have hper : shP (sameAt (trL L p) p) q (q - 1) 1 = shPer L p := by unfold shPer perN; rw [HN.out.2, hq]
  rw [hper] at HPER
  clear hper
  obtain ⟨P, hP⟩ : ∃ P, shPer L p = P := ⟨_, rfl⟩
  rw [hP] at HPER
  have hPle := sh_per_le (L := L) (lp := p) (by rw [HN.out.2]; exact hpk)
  rw [hP, HN.out.2] at hPle
  obtain ⟨hP1, hP2⟩ := hPle
  have HP := Lib.hid hP; clear hP
  have HIX := Lib.hid (fun (t : Nat) (W' : World) (ht : (t : Int) ≤ 9223372036854775807) => index_calls sa n sc st ta k tc p t W' hk64 (by omega) (by omega) (by omega) ht)
  have HS1 := Lib.hid (fun (i j : Nat) (W' : World) (hW' : V.grownBy W' none) (hi : i < k) (hj : j < k) => by
    have hb := (HBX.out W' (HG2.out.trans hW')).1
    rw [← HN.out.2] at hb
    have key : ∀ i, i < k → L[i]? = some (trL L p i) := fun i hi => by
      rw [trL_lt (by rw [HN.out.2]; omega), List.getD_eq_getElem?_getD, List.getElem?_eq_getElem (by rw [HN.out.2]; omega)]; rfl
    exact short1_calls sa n sc st ta L tc p i j w.heap.size _ _ W' hb (HST.out.grown hW') (key i hi) (key j hj) (small_lens (by rw [HN.out.2]; exact hk64) HX.out.2.2.2))
  go_wp2_with fail
  clear hV
  refine HPER.out.mono ?_
  rintro e V1 ⟨rfl, g1⟩
  have HV1 := Lib.hid g1; clear g1 c0 c1 c2 c3 d0 d1 d2 d3 hf hf0
  obtain ⟨⟨c0, c1, c2, c3⟩, d0, d1, d2, d3⟩ := HBX.out V1 (HG2.out.trans HV1.out)
  go_wp2_with fail
  clear c0 c1 c2 c3 d0 d1 d2 d3
  clear hqI hq
  go_loopg [5] p (fun g s5 wr => ∃ l : Nat, s5 = .int .i64 (l : Int) ∧ g = l ∧ l ≤ p ∧ downN (trL L p) P p = downN (trL L p) P l ∧ V.grownBy wr none)
  case atStart => exact ⟨p, rfl, rfl, Nat.le_refl _, rfl, HV1.out⟩
  case round =>
    obtain ⟨l, rfl, hgl, hl, hdn, hgr⟩ := hrel
    have HGL := Lib.hid (And.intro hgl (And.intro hdn hgr)); clear hgl hdn
    obtain ⟨⟨c0, c1, c2, c3⟩, d0, d1, d2, d3⟩ := HBX.out wr (HG2.out.trans hgr)
    have hf := HF.out wr hgr
    clear hgr
    by_cases hl0 : l = 0
    · have f0 : decide (0 < (l : Int)) = false := decide_eq_false (by omega)
      have f1 : decide (0 < l) = false := decide_eq_false (by omega)
      go_wp2_with fail
      go_quiet (fail)
      clear c0 c1 c2 c3 d0 d1 d2 d3 hf f0 f1
      have HD : Hid (shLoop L p = l) := Lib.hid (by unfold shLoop; rw [HP.out, HGL.out.2.1, hl0]; rfl)
      have HZ := Lib.hid (HGL.out.2.2.trans (grown_drewN wr nq none))
      obtain ⟨ZZ, hZZ⟩ : ∃ ZZ, wr.drewN nq = ZZ := ⟨_, rfl⟩
      rw [hZZ] at HZ ⊢
      clear hZZ hl0
      obtain ⟨⟨c0, c1, c2, c3⟩, d0, d1, d2, d3⟩ := HBX.out ZZ (HG2.out.trans HZ.out)
      have HCL := Lib.hid (cloneInts_calls us sa sc ZZ (HX.out.1.grown (HG.out.trans (HG2.out.trans HZ.out))) HX.out.2.2.1)
      rw [HN.out.1] at HCL
      obtain ⟨N, hN⟩ : ∃ N, l + P = N := ⟨_, rfl⟩
      have hNI : (l : Int) + (P : Int) = (N : Int) := by omega
      have HNN : Hid (shLoop L p + shPer L p = N ∧ shLoop L p = l) := Lib.hid ⟨by rw [HD.out, HP.out, hN], HD.out⟩
      have hN64 : N ≤ 64 := by omega
      clear hN
      go_wp2_with fail
      refine HCL.out.mono ?_
      rintro e Z1 ⟨oa, oc, rfl, hsp, g6⟩
      have HSP := Lib.hid hsp; clear hsp
      have HZ1 := Lib.hid (HG2.out.trans (HZ.out.trans g6)); clear g6 c0 c1 c2 c3 d0 d1 d2 d3
      obtain ⟨⟨c0, c1, c2, c3⟩, d0, d1, d2, d3⟩ := HBX.out Z1 HZ1.out
      have hmade := MadeM.start Z1 (.slice oa n oc) (.int .i64 N) (.int .i64 l)
      have hgw := World.grownBy_alloc Z1 (.cells #[.slice oa n oc, .int .i64 N, .slice none 0 0, .int .i64 l] 33) none
      go_wp2_with fail
      clear c0 c1 c2 c3 d0 d1 d2 d3
      obtain ⟨Y0, hY0⟩ : ∃ Y0, Z1.alloc (.cells #[.slice oa n oc, .int .i64 N, .slice none 0 0, .int .i64 l] 33) = Y0 := ⟨_, rfl⟩
      obtain ⟨g0, hg0⟩ : ∃ g0, Z1.heap.size = g0 := ⟨_, rfl⟩
      rw [hY0] at hmade hgw ⊢
      rw [hg0] at hmade ⊢
      have HMS := Lib.hid (And.intro hmade hgw); clear hmade hgw hY0
      have HG0 := Lib.hid hg0; clear hg0
      go_loopg [52] N (fun g s52 wr => ∃ (t : Nat) (D : List Ds) (lv : Value), s52 = .int .i64 (t : Int) ∧ g = N - t ∧ t ≤ N ∧ MadeM wr g0 (.slice oa n oc) (.int .i64 N) (.int .i64 l) lv D ∧ D.map (·.1) = (List.range t).map (trL L p) ∧ Z1.grownBy wr none)
      case atStart => exact ⟨0, [], _, rfl, rfl, Nat.zero_le _, HMS.out.1, rfl, HMS.out.2⟩
      case round =>
        obtain ⟨t, D, lv, rfl, hgt, ht, hmd, hD, hgr⟩ := hrel
        have hDl : D.length = t := by rw [← List.length_map (f := (·.1)), hD]; simp
        have HM := Lib.hid hmd
        have HGT := Lib.hid (And.intro hgt (And.intro hD (And.intro hDl hgr))); clear hgt hD
        obtain ⟨e0, e1, e2, e3, ef, eout⟩ := hmd
        obtain ⟨va, vc, rfl⟩ := own_shape eout.own
        rw [hDl] at e2
        rw [hDl] at HM
        clear eout hDl
        obtain ⟨⟨c0, c1, c2, c3⟩, d0, d1, d2, d3⟩ := HBX.out wr (HZ1.out.trans hgr)
        have z0 := (grown_frozen (HZ1.out.trans hgr) (by have := HFZ.out.1; omega) 0).trans (HFZ.out.2 0)
        have z1 := (grown_frozen (HZ1.out.trans hgr) (by have := HFZ.out.1; omega) 1).trans (HFZ.out.2 1)
        have z2 := (grown_frozen (HZ1.out.trans hgr) (by have := HFZ.out.1; omega) 2).trans (HFZ.out.2 2)
        have z3 := (grown_frozen (HZ1.out.trans hgr) (by have := HFZ.out.1; omega) 3).trans (HFZ.out.2 3)
        have HGR := Lib.hid hgr
        by_cases hin : t < N
        · have hinB : decide (t < N) = true := by simpa using hin
          obtain ⟨i0, hi0, hz0, hz1, hz2⟩ := info_parts info40
          have HAT1 := Lib.hid (fun (W' : World) (hW' : wr.grownBy W' none) => at_calls sa n sc st ta L tc p t W' (HX.out.2.1.grown (HG.out.trans (HZ1.out.trans (HGT.out.2.2.2.trans hW')))) (loopedB_iff.2 (by rw [HN.out.2]; omega)) (by omega) (by omega) (small_wide HX.out.2.2.2))
          rw [HN.out.2] at HAT1
          have hatl : atL L (p : Int) (t : Int) = trL L p t := rfl
          rw [hatl] at HAT1
          clear hatl
          obtain ⟨m, hm⟩ : ∃ m, (trL L p t).length = m := ⟨_, rfl⟩
          rw [hm] at HAT1
          have HMM := Lib.hid hm; clear hm
          clear hgr
          have HST4 : Hid (∀ (w4 : World) (g3 : wr.drew.grownBy w4 none), MadeM w4 g0 (.slice oa n oc) (.int .i64 N) (.int .i64 l) (.slice va t vc) D ∧ wr.grownBy w4 none) := Lib.hid fun w4 g3 => ⟨HM.out.off (World.grownBy.trans (b := wr.drew) (grown_drewN wr 1 none) g3) (fun x e => by cases e), World.grownBy.trans (b := wr.drew) (grown_drewN wr 1 none) g3⟩
          have HD40 : Hid (wr.drew.heap.size = wr.heap.size ∧ g0 + 1 ≤ wr.drew.heap.size) := Lib.hid ⟨rfl, HM.out.lt⟩
          go_wp2_with fail
          refine wp_region_any (by kernel_rfl) ?_
          change wpAny _ _ _ _ _ _ _ (World.drew _)
          refine wpAny_take (i := 0) (v := ?vQx1) rfl (by kernel_rfl) (by kernel_rfl) (by kernel_rfl) (fun _ _ _ h => h) (Or.inl ⟨by rfl, ?yQx1⟩) ?rQx1
          case yQx1 => (intro W; first | (go_simp; done) | (go_simp; with_reducible rfl))
          try simp only [Act.put, List.setIfInBounds_toArray]
          refine wpAny_take (i := 3) (v := ?vQx2) rfl (by kernel_rfl) (by kernel_rfl) (by kernel_rfl) (fun _ _ _ h => h) (Or.inl ⟨by rfl, ?yQx2⟩) ?rQx2
          case yQx2 => (intro W; first | (go_simp; done) | (go_simp; with_reducible rfl))
          try simp only [Act.put]
          refine wpAny_ready (rs := [1, 2]) (by kernel_rfl) (by simp) ?_
          refine (AllReady.cons rfl (fun K hK => ?_) (AllReady.cons rfl (fun K hK => ?_) AllReady.nil))
          · go_simp
            refine hK _ _ ?_
            clear hK K
            try simp only [Act.put, List.setIfInBounds_toArray, List.set_cons_zero, List.set_cons_succ]
            refine wpAny_ready (rs := [2]) (by kernel_rfl) (by simp) ?_
            refine (AllReady.cons rfl (fun K hK => ?_) AllReady.nil)
            go_simp
            refine hK _ _ ?_
            clear hK K
            try simp only [Act.put, List.setIfInBounds_toArray, List.set_cons_zero, List.set_cons_succ]
            refine wpAny_ready (rs := [4]) (by kernel_rfl) (by simp) ?_
            refine (AllReady.cons rfl (fun K hK => ?_) AllReady.nil)
            go_simp
            refine (HAT1.out wr.drew (grown_drewN wr 1 none)).mono ?_
            rintro e w4 ⟨a', c', rfl, hsp, g3⟩
            have HS4 := Lib.hid (And.intro hsp (HST4.out w4 g3)); clear hsp g3
            obtain ⟨k0, k1, k2, k3, kf, ko⟩ := HS4.out.2.1
            have kA := (World.grownBy_alloc w4 (.cells #[.slice a' m c'] 40) none).cell k2 (by simp)
            have HOW := Lib.hid ko.own; clear ko
            rw [HGT.out.2.2.1] at HOW
            go_wp2_with fail
            try (refine hK _ _ ?_; clear hK K)
            try simp only [Act.put, List.setIfInBounds_toArray, List.set_cons_zero, List.set_cons_succ]
            refine wpAny_ready (rs := [5]) (by kernel_rfl) (by simp) ?_
            refine (AllReady.cons rfl (fun K hK => ?_) AllReady.nil)
            go_simp
            refine hK _ _ ?_
            clear hK K
            try simp only [Act.put, List.setIfInBounds_toArray, List.set_cons_zero, List.set_cons_succ]
            refine wpAny_ready (rs := [6]) (by kernel_rfl) (by simp) ?_
            refine (AllReady.cons rfl (fun K hK => ?_) AllReady.nil)
            refine ready_append rfl _ _ rfl (g0 + 1) _ t (D.flatMap stCells) rfl (HOW.out.alloc _) ⟨w4.heap.size, 0, none⟩ (.slice a' m c') rfl (cell_one_at _ _ _) rfl (by omega) (by simp only [World.size_alloc]; have := HS4.out.2.1.lt; omega) (fun v' w5 hown' hgrow5 hat5 => ?_)
            obtain ⟨va', vc', rfl⟩ := own_shape hown'
            obtain ⟨f0, f1, f2, f3, ff, -⟩ := HS4.out.2.1.at_ hgrow5
            refine hK _ _ ?_
            clear hK K
            try simp only [Act.put, List.setIfInBounds_toArray]
            refine wpAny_take (i := 7) (v := ?vQx3) rfl (by kernel_rfl) (by kernel_rfl) (by kernel_rfl) (fun _ _ _ h => h) (Or.inl ⟨by rfl, ?yQx3⟩) ?rQx3
            case yQx3 => (intro W; first | (go_simp; done) | (go_simp; with_reducible rfl))
            try simp only [Act.put]
            refine wpAny_ready (rs := [8]) (by kernel_rfl) (by simp) ?_
            refine (AllReady.cons rfl (fun K hK => ?_) AllReady.nil)
            go_simp
            refine hK _ _ ?_
            clear hK K
            try simp only [Act.put, List.setIfInBounds_toArray, List.set_cons_zero, List.set_cons_succ]
            refine wpAny_done (by kernel_rfl) ?_ _
            go_wp2_with fail
            go_roundg (N - (t + 1))
            case measure => rw [HGT.out.1]; omega
            case rel =>
              have hz1 : Z1.heap.size = g0 := HG0.out
              refine ⟨t + 1, D ++ [(trL L p t, a', c')], _, rfl, rfl, by omega, HS4.out.2.1.step HS4.out.1 HD40.out.2 (fun x hx => .inl (HM.out.out.own.lt x hx).2) (by rw [HGT.out.2.2.1, show stCells (trL L p t, a', c') = [.slice a' m c'] by rw [stCells, HMM.out]]; exact hown') hgrow5 hat5, ?_, ?_⟩
              · rw [List.map_append, HGT.out.2.1, List.range_succ, List.map_append]; rfl
              · exact grown_made (HGT.out.2.2.2.trans HS4.out.2.2) hgrow5 (fun x hx => by have := (HM.out.out.own.lt x hx).1; omega) (by omega)
          · go_simp
            refine hK _ _ ?_
            clear hK K
            try simp only [Act.put, List.setIfInBounds_toArray, List.set_cons_zero, List.set_cons_succ]
            refine wpAny_ready (rs := [1, 4]) (by kernel_rfl) (by simp) ?_
            refine (AllReady.cons rfl (fun K hK => ?_) (AllReady.cons rfl (fun K hK => ?_) AllReady.nil))
            · go_simp
              refine hK _ _ ?_
              clear hK K
              try simp only [Act.put, List.setIfInBounds_toArray, List.set_cons_zero, List.set_cons_succ]
              refine wpAny_ready (rs := [4]) (by kernel_rfl) (by simp) ?_
              refine (AllReady.cons rfl (fun K hK => ?_) AllReady.nil)
              go_simp
              refine (HAT1.out wr.drew (grown_drewN wr 1 none)).mono ?_
              rintro e w4 ⟨a', c', rfl, hsp, g3⟩
              have HS4 := Lib.hid (And.intro hsp (HST4.out w4 g3)); clear hsp g3
              obtain ⟨k0, k1, k2, k3, kf, ko⟩ := HS4.out.2.1
              have kA := (World.grownBy_alloc w4 (.cells #[.slice a' m c'] 40) none).cell k2 (by simp)
              have HOW := Lib.hid ko.own; clear ko
              rw [HGT.out.2.2.1] at HOW
              go_wp2_with fail
              try (refine hK _ _ ?_; clear hK K)
              try simp only [Act.put, List.setIfInBounds_toArray, List.set_cons_zero, List.set_cons_succ]
              refine wpAny_ready (rs := [5]) (by kernel_rfl) (by simp) ?_
              refine (AllReady.cons rfl (fun K hK => ?_) AllReady.nil)
              go_simp
              refine hK _ _ ?_
              clear hK K
              try simp only [Act.put, List.setIfInBounds_toArray, List.set_cons_zero, List.set_cons_succ]
              refine wpAny_ready (rs := [6]) (by kernel_rfl) (by simp) ?_
              refine (AllReady.cons rfl (fun K hK => ?_) AllReady.nil)
              refine ready_append rfl _ _ rfl (g0 + 1) _ t (D.flatMap stCells) rfl (HOW.out.alloc _) ⟨w4.heap.size, 0, none⟩ (.slice a' m c') rfl (cell_one_at _ _ _) rfl (by omega) (by simp only [World.size_alloc]; have := HS4.out.2.1.lt; omega) (fun v' w5 hown' hgrow5 hat5 => ?_)
              obtain ⟨va', vc', rfl⟩ := own_shape hown'
              obtain ⟨f0, f1, f2, f3, ff, -⟩ := HS4.out.2.1.at_ hgrow5
              refine hK _ _ ?_
              clear hK K
              try simp only [Act.put, List.setIfInBounds_toArray]
              refine wpAny_take (i := 7) (v := ?vQx4) rfl (by kernel_rfl) (by kernel_rfl) (by kernel_rfl) (fun _ _ _ h => h) (Or.inl ⟨by rfl, ?yQx4⟩) ?rQx4
              case yQx4 => (intro W; first | (go_simp; done) | (go_simp; with_reducible rfl))
              try simp only [Act.put]
              refine wpAny_ready (rs := [8]) (by kernel_rfl) (by simp) ?_
              refine (AllReady.cons rfl (fun K hK => ?_) AllReady.nil)
              go_simp
              refine hK _ _ ?_
              clear hK K
              try simp only [Act.put, List.setIfInBounds_toArray, List.set_cons_zero, List.set_cons_succ]
              refine wpAny_done (by kernel_rfl) ?_ _
              go_wp2_with fail
              go_roundg (N - (t + 1))
              case measure => rw [HGT.out.1]; omega
              case rel =>
                have hz1 : Z1.heap.size = g0 := HG0.out
                refine ⟨t + 1, D ++ [(trL L p t, a', c')], _, rfl, rfl, by omega, HS4.out.2.1.step HS4.out.1 HD40.out.2 (fun x hx => .inl (HM.out.out.own.lt x hx).2) (by rw [HGT.out.2.2.1, show stCells (trL L p t, a', c') = [.slice a' m c'] by rw [stCells, HMM.out]]; exact hown') hgrow5 hat5, ?_, ?_⟩
                · rw [List.map_append, HGT.out.2.1, List.range_succ, List.map_append]; rfl
                · exact grown_made (HGT.out.2.2.2.trans HS4.out.2.2) hgrow5 (fun x hx => by have := (HM.out.out.own.lt x hx).1; omega) (by omega)
            · go_simp
              refine (HAT1.out wr.drew (grown_drewN wr 1 none)).mono ?_
              rintro e w4 ⟨a', c', rfl, hsp, g3⟩
              have HS4 := Lib.hid (And.intro hsp (HST4.out w4 g3)); clear hsp g3
              obtain ⟨k0, k1, k2, k3, kf, ko⟩ := HS4.out.2.1
              have kA := (World.grownBy_alloc w4 (.cells #[.slice a' m c'] 40) none).cell k2 (by simp)
              have HOW := Lib.hid ko.own; clear ko
              rw [HGT.out.2.2.1] at HOW
              go_wp2_with fail
              try (refine hK _ _ ?_; clear hK K)
              try simp only [Act.put, List.setIfInBounds_toArray, List.set_cons_zero, List.set_cons_succ]
              refine wpAny_ready (rs := [1, 5]) (by kernel_rfl) (by simp) ?_
              refine (AllReady.cons rfl (fun K hK => ?_) (AllReady.cons rfl (fun K hK => ?_) AllReady.nil))
              · go_simp
                refine hK _ _ ?_
                clear hK K
                try simp only [Act.put, List.setIfInBounds_toArray, List.set_cons_zero, List.set_cons_succ]
                refine wpAny_ready (rs := [5]) (by kernel_rfl) (by simp) ?_
                refine (AllReady.cons rfl (fun K hK => ?_) AllReady.nil)
                go_simp
                refine hK _ _ ?_
                clear hK K
                try simp only [Act.put, List.setIfInBounds_toArray, List.set_cons_zero, List.set_cons_succ]
                refine wpAny_ready (rs := [6]) (by kernel_rfl) (by simp) ?_
                refine (AllReady.cons rfl (fun K hK => ?_) AllReady.nil)
                refine ready_append rfl _ _ rfl (g0 + 1) _ t (D.flatMap stCells) rfl (HOW.out.alloc _) ⟨w4.heap.size, 0, none⟩ (.slice a' m c') rfl (cell_one_at _ _ _) rfl (by omega) (by simp only [World.size_alloc]; have := HS4.out.2.1.lt; omega) (fun v' w5 hown' hgrow5 hat5 => ?_)
                obtain ⟨va', vc', rfl⟩ := own_shape hown'
                obtain ⟨f0, f1, f2, f3, ff, -⟩ := HS4.out.2.1.at_ hgrow5
                refine hK _ _ ?_
                clear hK K
                try simp only [Act.put, List.setIfInBounds_toArray]
                refine wpAny_take (i := 7) (v := ?vQx5) rfl (by kernel_rfl) (by kernel_rfl) (by kernel_rfl) (fun _ _ _ h => h) (Or.inl ⟨by rfl, ?yQx5⟩) ?rQx5
                case yQx5 => (intro W; first | (go_simp; done) | (go_simp; with_reducible rfl))
                try simp only [Act.put]
                refine wpAny_ready (rs := [8]) (by kernel_rfl) (by simp) ?_
                refine (AllReady.cons rfl (fun K hK => ?_) AllReady.nil)
                go_simp
                refine hK _ _ ?_
                clear hK K
                try simp only [Act.put, List.setIfInBounds_toArray, List.set_cons_zero, List.set_cons_succ]
                refine wpAny_done (by kernel_rfl) ?_ _
                go_wp2_with fail
                go_roundg (N - (t + 1))
                case measure => rw [HGT.out.1]; omega
                case rel =>
                  have hz1 : Z1.heap.size = g0 := HG0.out
                  refine ⟨t + 1, D ++ [(trL L p t, a', c')], _, rfl, rfl, by omega, HS4.out.2.1.step HS4.out.1 HD40.out.2 (fun x hx => .inl (HM.out.out.own.lt x hx).2) (by rw [HGT.out.2.2.1, show stCells (trL L p t, a', c') = [.slice a' m c'] by rw [stCells, HMM.out]]; exact hown') hgrow5 hat5, ?_, ?_⟩
                  · rw [List.map_append, HGT.out.2.1, List.range_succ, List.map_append]; rfl
                  · exact grown_made (HGT.out.2.2.2.trans HS4.out.2.2) hgrow5 (fun x hx => by have := (HM.out.out.own.lt x hx).1; omega) (by omega)
              · go_simp
                refine hK _ _ ?_
                clear hK K
                try simp only [Act.put, List.setIfInBounds_toArray, List.set_cons_zero, List.set_cons_succ]
                refine wpAny_ready (rs := [1]) (by kernel_rfl) (by simp) ?_
                refine (AllReady.cons rfl (fun K hK => ?_) AllReady.nil)
                go_simp
                refine hK _ _ ?_
                clear hK K
                try simp only [Act.put, List.setIfInBounds_toArray, List.set_cons_zero, List.set_cons_succ]
                refine wpAny_ready (rs := [6]) (by kernel_rfl) (by simp) ?_
                refine (AllReady.cons rfl (fun K hK => ?_) AllReady.nil)
                refine ready_append rfl _ _ rfl (g0 + 1) _ t (D.flatMap stCells) rfl (HOW.out.alloc _) ⟨w4.heap.size, 0, none⟩ (.slice a' m c') rfl (cell_one_at _ _ _) rfl (by omega) (by simp only [World.size_alloc]; have := HS4.out.2.1.lt; omega) (fun v' w5 hown' hgrow5 hat5 => ?_)
                obtain ⟨va', vc', rfl⟩ := own_shape hown'
                obtain ⟨f0, f1, f2, f3, ff, -⟩ := HS4.out.2.1.at_ hgrow5
                refine hK _ _ ?_
                clear hK K
                try simp only [Act.put, List.setIfInBounds_toArray]
                refine wpAny_take (i := 7) (v := ?vQx6) rfl (by kernel_rfl) (by kernel_rfl) (by kernel_rfl) (fun _ _ _ h => h) (Or.inl ⟨by rfl, ?yQx6⟩) ?rQx6
                case yQx6 => (intro W; first | (go_simp; done) | (go_simp; with_reducible rfl))
                try simp only [Act.put]
                refine wpAny_ready (rs := [8]) (by kernel_rfl) (by simp) ?_
                refine (AllReady.cons rfl (fun K hK => ?_) AllReady.nil)
                go_simp
                refine hK _ _ ?_
                clear hK K
                try simp only [Act.put, List.setIfInBounds_toArray, List.set_cons_zero, List.set_cons_succ]
                refine wpAny_done (by kernel_rfl) ?_ _
                go_wp2_with fail
                go_roundg (N - (t + 1))
                case measure => rw [HGT.out.1]; omega
                case rel =>
                  have hz1 : Z1.heap.size = g0 := HG0.out
                  refine ⟨t + 1, D ++ [(trL L p t, a', c')], _, rfl, rfl, by omega, HS4.out.2.1.step HS4.out.1 HD40.out.2 (fun x hx => .inl (HM.out.out.own.lt x hx).2) (by rw [HGT.out.2.2.1, show stCells (trL L p t, a', c') = [.slice a' m c'] by rw [stCells, HMM.out]]; exact hown') hgrow5 hat5, ?_, ?_⟩
                  · rw [List.map_append, HGT.out.2.1, List.range_succ, List.map_append]; rfl
                  · exact grown_made (HGT.out.2.2.2.trans HS4.out.2.2) hgrow5 (fun x hx => by have := (HM.out.out.own.lt x hx).1; omega) (by omega)
        · have hie : t = N := by omega
          subst hie
          have hinB : decide (t < t) = false := by simp
          go_wp2_with fail
          obtain ⟨va2, vc2, hve, hsts⟩ := HM.out.sts
          have HSS : shSts L p = (List.range t).map (trL L p) := by unfold shSts; rw [HNN.out.1]
          rw [HGT.out.2.1, ← HSS] at hve hsts
          injection hve with e4 e5 e6
          subst e4 e6
          obtain ⟨q0, q1, q2, q3, qg⟩ := four_sets (.slice oa n oc) (.int .i64 t) (.slice va t vc) (.int .i64 l) d0 d1 d2 d3
          refine bodyPost_ret (results30 _ _ (w.heap.size + 1) oa n oc va t vc t l rfl q0 q1 q2 q3) rfl ⟨oa, oc, va, vc, by rw [HNN.out.1, HNN.out.2, sh_len, HNN.out.1], ?_, ?_⟩
          · have hZ := HZ.out.size
            have hW2 := HFZ.out.1
            have hWV := HG2.out.size
            have hg0 : Z1.heap.size = g0 := HG0.out
            have hZ1 := (HZ1.out.trans hgr).size
            have hww := HG.out.size
            have hsz := qg.size
            have hW1 := HZ1.out.size
            have h1 := (HSP.out.grown hgr).off qg (fun x hx => by cases hx; left; omega)
            have h2 := hsts.off qg (fun x hx => by cases hx; left; omega)
            exact (h1.wide (by omega) (Nat.le_trans hgr.size hsz) (Nat.le_refl _)).both (h2.wide (by omega) hsz (Nat.le_refl _))
          · exact grown_own (HG.out.trans (HZ1.out.trans hgr)) qg (fun x hx => by cases hx; omega)
    · have f0 : decide (0 < (l : Int)) = true := decide_eq_true (by omega)
      have f1 : decide (0 < l) = true := decide_eq_true (by omega)
      obtain ⟨i, rfl⟩ : ∃ i, l = i + 1 := ⟨l - 1, by omega⟩
      go_wp2_with fail
      have hsub : IntKind.i64.wrap (i : Int) = (i : Int) := IntWalk.i64_in _ (by omega)
      obtain ⟨T, hT⟩ : ∃ T, i + P = T := ⟨_, rfl⟩
      have hwr : IntKind.i64.wrap ((i : Int) + (P : Int)) = (T : Int) := by rw [IntWalk.i64_in _ (by omega)]; omega
      have HIX1 := Lib.hid (fun (W' : World) => HIX.out T W' (by omega))
      rw [indexI_nat hpk] at HIX1
      have hj := ixN_lt (t := T) hpk
      obtain ⟨j, hjj⟩ : ∃ j, ixN k p T = j := ⟨_, rfl⟩
      rw [hjj] at HIX1 hj
      have HS2 := Lib.hid (fun (W' : World) (hW' : wr.grownBy W' none) => HS1.out i j W' (HGL.out.2.2.trans hW') (by omega) hj)
      have HJ := Lib.hid (And.intro hT hjj); clear hT hjj
      obtain ⟨R, hR⟩ : ∃ R, decide (trL L p i = trL L p j) = R := ⟨_, rfl⟩
      rw [hR] at HS2
      have HR := Lib.hid hR; clear hR
      go_region_held3 (fun w' => wr.grownBy w' none ∧ w'.cell? ⟨w.heap.size, 0, none⟩ = some (.slice sa n sc) ∧ w'.cell? ⟨w.heap.size, 1, none⟩ = some (.int .i64 st) ∧ w'.cell? ⟨w.heap.size, 2, none⟩ = some (.slice ta k tc) ∧ w'.cell? ⟨w.heap.size, 3, none⟩ = some (.int .i64 p) ∧ w'.cell? ⟨f, 0, none⟩ = some (.func (.func 83) #[] #[.pointer (some ⟨w.heap.size, 0, none⟩)]))
        (first | exact ⟨⟨rfl, rfl, rfl, Nat.le_refl _, fun _ _ _ => rfl⟩, c0, c1, c2, c3, hf⟩ | (go_split_ands; exact held_nextM g3 (by assumption) (by assumption) (by assumption) (by assumption) (by assumption) (by assumption)) | fail)
        (first | (go_at_call 80; with_reducible refine (HIX1.out _).mono ?_; rintro e w4 ⟨rfl, g3⟩) | (go_at_call 83; with_reducible refine (HS2.out _ ?_).mono ?_; (go_split_ands; assumption); rintro e w5 ⟨rfl, g3⟩) | fail)
      all_goals
        have h5 : wr.grownBy w5 none := by go_split_ands; assumption
        have HG5 := Lib.hid (HGL.out.2.2.trans h5); clear h5
        have HTR : Hid (trL L p j = trL L p (i + P)) := Lib.hid (by
          have e1 : L[j]? = some (trL L p T) := by
            have := trL_ix (L := L) (p := p) (t := T) (by rw [HN.out.2]; exact hpk)
            rw [HN.out.2, HJ.out.2] at this
            exact this
          have e2 : trL L p j = trL L p T := by rw [trL_lt (by rw [HN.out.2]; exact hj), List.getD_eq_getElem?_getD, e1]; rfl
          rw [e2, HJ.out.1])
        clear c0 c1 c2 c3 d0 d1 d2 d3 hf
        cases R with
        | true =>
          have HD : Hid (downN (trL L p) P (i + 1) = downN (trL L p) P i) := Lib.hid (by rw [downN, if_pos (by rw [← HTR.out]; exact of_decide_eq_true HR.out)])
          go_wp2_with fail
          go_roundg i
          case measure => rw [HGL.out.1]; omega
          case rel => exact ⟨i, rfl, rfl, by omega, HGL.out.2.1.trans HD.out, HG5.out⟩
        | false =>
          have HD : Hid (downN (trL L p) P (i + 1) = i + 1) := Lib.hid (by rw [downN, if_neg (by rw [← HTR.out]; exact of_decide_eq_false HR.out)])
          have HZ := Lib.hid HG5.out
          have HDD : Hid (shLoop L p = i + 1) := Lib.hid (by unfold shLoop; rw [HP.out, HGL.out.2.1, HD.out])
          clear HD f0 f1 hsub hwr hj
          have HD := HDD
          clear HDD
          obtain ⟨lo, hlo⟩ : ∃ lo, i + 1 = lo := ⟨_, rfl⟩
          rw [hlo] at HD
          rw [show (i : Int) + 1 = (lo : Int) by omega]
          rw [hlo] at hl
          clear hlo
          obtain ⟨ZZ, hZZ⟩ : ∃ ZZ, w5 = ZZ := ⟨_, rfl⟩
          rw [hZZ] at HZ ⊢
          clear hZZ
          obtain ⟨⟨c0, c1, c2, c3⟩, d0, d1, d2, d3⟩ := HBX.out ZZ (HG2.out.trans HZ.out)
          have HCL := Lib.hid (cloneInts_calls us sa sc ZZ (HX.out.1.grown (HG.out.trans (HG2.out.trans HZ.out))) HX.out.2.2.1)
          rw [HN.out.1] at HCL
          obtain ⟨N, hN⟩ : ∃ N, lo + P = N := ⟨_, rfl⟩
          have hNI : (lo : Int) + (P : Int) = (N : Int) := by omega
          have HNN : Hid (shLoop L p + shPer L p = N ∧ shLoop L p = lo) := Lib.hid ⟨by rw [HD.out, HP.out, hN], HD.out⟩
          have hN64 : N ≤ 64 := by omega
          clear hN
          go_wp2_with fail
          refine HCL.out.mono ?_
          rintro e Z1 ⟨oa, oc, rfl, hsp, g6⟩
          have HSP := Lib.hid hsp; clear hsp
          have HZ1 := Lib.hid (HG2.out.trans (HZ.out.trans g6)); clear g6 c0 c1 c2 c3 d0 d1 d2 d3
          obtain ⟨⟨c0, c1, c2, c3⟩, d0, d1, d2, d3⟩ := HBX.out Z1 HZ1.out
          have hmade := MadeM.start Z1 (.slice oa n oc) (.int .i64 N) (.int .i64 lo)
          have hgw := World.grownBy_alloc Z1 (.cells #[.slice oa n oc, .int .i64 N, .slice none 0 0, .int .i64 lo] 33) none
          go_wp2_with fail
          clear c0 c1 c2 c3 d0 d1 d2 d3
          obtain ⟨Y0, hY0⟩ : ∃ Y0, Z1.alloc (.cells #[.slice oa n oc, .int .i64 N, .slice none 0 0, .int .i64 lo] 33) = Y0 := ⟨_, rfl⟩
          obtain ⟨g0, hg0⟩ : ∃ g0, Z1.heap.size = g0 := ⟨_, rfl⟩
          rw [hY0] at hmade hgw ⊢
          rw [hg0] at hmade ⊢
          have HMS := Lib.hid (And.intro hmade hgw); clear hmade hgw hY0
          have HG0 := Lib.hid hg0; clear hg0
          go_loopg [52] N (fun g s52 wr => ∃ (t : Nat) (D : List Ds) (lv : Value), s52 = .int .i64 (t : Int) ∧ g = N - t ∧ t ≤ N ∧ MadeM wr g0 (.slice oa n oc) (.int .i64 N) (.int .i64 lo) lv D ∧ D.map (·.1) = (List.range t).map (trL L p) ∧ Z1.grownBy wr none)
          case atStart => exact ⟨0, [], _, rfl, rfl, Nat.zero_le _, HMS.out.1, rfl, HMS.out.2⟩
          case round =>
            obtain ⟨t, D, lv, rfl, hgt, ht, hmd, hD, hgr⟩ := hrel
            have hDl : D.length = t := by rw [← List.length_map (f := (·.1)), hD]; simp
            have HM := Lib.hid hmd
            have HGT := Lib.hid (And.intro hgt (And.intro hD (And.intro hDl hgr))); clear hgt hD
            obtain ⟨e0, e1, e2, e3, ef, eout⟩ := hmd
            obtain ⟨va, vc, rfl⟩ := own_shape eout.own
            rw [hDl] at e2
            rw [hDl] at HM
            clear eout hDl
            obtain ⟨⟨c0, c1, c2, c3⟩, d0, d1, d2, d3⟩ := HBX.out wr (HZ1.out.trans hgr)
            have z0 := (grown_frozen (HZ1.out.trans hgr) (by have := HFZ.out.1; omega) 0).trans (HFZ.out.2 0)
            have z1 := (grown_frozen (HZ1.out.trans hgr) (by have := HFZ.out.1; omega) 1).trans (HFZ.out.2 1)
            have z2 := (grown_frozen (HZ1.out.trans hgr) (by have := HFZ.out.1; omega) 2).trans (HFZ.out.2 2)
            have z3 := (grown_frozen (HZ1.out.trans hgr) (by have := HFZ.out.1; omega) 3).trans (HFZ.out.2 3)
            have HGR := Lib.hid hgr
            by_cases hin : t < N
            · have hinB : decide (t < N) = true := by simpa using hin
              obtain ⟨i0, hi0, hz0, hz1, hz2⟩ := info_parts info40
              have HAT1 := Lib.hid (fun (W' : World) (hW' : wr.grownBy W' none) => at_calls sa n sc st ta L tc p t W' (HX.out.2.1.grown (HG.out.trans (HZ1.out.trans (HGT.out.2.2.2.trans hW')))) (loopedB_iff.2 (by rw [HN.out.2]; omega)) (by omega) (by omega) (small_wide HX.out.2.2.2))
              rw [HN.out.2] at HAT1
              have hatl : atL L (p : Int) (t : Int) = trL L p t := rfl
              rw [hatl] at HAT1
              clear hatl
              obtain ⟨m, hm⟩ : ∃ m, (trL L p t).length = m := ⟨_, rfl⟩
              rw [hm] at HAT1
              have HMM := Lib.hid hm; clear hm
              clear hgr
              have HST4 : Hid (∀ (w4 : World) (g3 : wr.drew.grownBy w4 none), MadeM w4 g0 (.slice oa n oc) (.int .i64 N) (.int .i64 lo) (.slice va t vc) D ∧ wr.grownBy w4 none) := Lib.hid fun w4 g3 => ⟨HM.out.off (World.grownBy.trans (b := wr.drew) (grown_drewN wr 1 none) g3) (fun x e => by cases e), World.grownBy.trans (b := wr.drew) (grown_drewN wr 1 none) g3⟩
              have HD40 : Hid (wr.drew.heap.size = wr.heap.size ∧ g0 + 1 ≤ wr.drew.heap.size) := Lib.hid ⟨rfl, HM.out.lt⟩
              go_wp2_with fail
              refine wp_region_any (by kernel_rfl) ?_
              change wpAny _ _ _ _ _ _ _ (World.drew _)
              refine wpAny_take (i := 0) (v := ?vZx1) rfl (by kernel_rfl) (by kernel_rfl) (by kernel_rfl) (fun _ _ _ h => h) (Or.inl ⟨by rfl, ?yZx1⟩) ?rZx1
              case yZx1 => (intro W; first | (go_simp; done) | (go_simp; with_reducible rfl))
              try simp only [Act.put, List.setIfInBounds_toArray]
              refine wpAny_take (i := 3) (v := ?vZx2) rfl (by kernel_rfl) (by kernel_rfl) (by kernel_rfl) (fun _ _ _ h => h) (Or.inl ⟨by rfl, ?yZx2⟩) ?rZx2
              case yZx2 => (intro W; first | (go_simp; done) | (go_simp; with_reducible rfl))
              try simp only [Act.put]
              refine wpAny_ready (rs := [1, 2]) (by kernel_rfl) (by simp) ?_
              refine (AllReady.cons rfl (fun K hK => ?_) (AllReady.cons rfl (fun K hK => ?_) AllReady.nil))
              · go_simp
                refine hK _ _ ?_
                clear hK K
                try simp only [Act.put, List.setIfInBounds_toArray, List.set_cons_zero, List.set_cons_succ]
                refine wpAny_ready (rs := [2]) (by kernel_rfl) (by simp) ?_
                refine (AllReady.cons rfl (fun K hK => ?_) AllReady.nil)
                go_simp
                refine hK _ _ ?_
                clear hK K
                try simp only [Act.put, List.setIfInBounds_toArray, List.set_cons_zero, List.set_cons_succ]
                refine wpAny_ready (rs := [4]) (by kernel_rfl) (by simp) ?_
                refine (AllReady.cons rfl (fun K hK => ?_) AllReady.nil)
                go_simp
                refine (HAT1.out wr.drew (grown_drewN wr 1 none)).mono ?_
                rintro e w4 ⟨a', c', rfl, hsp, g3⟩
                have HS4 := Lib.hid (And.intro hsp (HST4.out w4 g3)); clear hsp g3
                obtain ⟨k0, k1, k2, k3, kf, ko⟩ := HS4.out.2.1
                have kA := (World.grownBy_alloc w4 (.cells #[.slice a' m c'] 40) none).cell k2 (by simp)
                have HOW := Lib.hid ko.own; clear ko
                rw [HGT.out.2.2.1] at HOW
                go_wp2_with fail
                try (refine hK _ _ ?_; clear hK K)
                try simp only [Act.put, List.setIfInBounds_toArray, List.set_cons_zero, List.set_cons_succ]
                refine wpAny_ready (rs := [5]) (by kernel_rfl) (by simp) ?_
                refine (AllReady.cons rfl (fun K hK => ?_) AllReady.nil)
                go_simp
                refine hK _ _ ?_
                clear hK K
                try simp only [Act.put, List.setIfInBounds_toArray, List.set_cons_zero, List.set_cons_succ]
                refine wpAny_ready (rs := [6]) (by kernel_rfl) (by simp) ?_
                refine (AllReady.cons rfl (fun K hK => ?_) AllReady.nil)
                refine ready_append rfl _ _ rfl (g0 + 1) _ t (D.flatMap stCells) rfl (HOW.out.alloc _) ⟨w4.heap.size, 0, none⟩ (.slice a' m c') rfl (cell_one_at _ _ _) rfl (by omega) (by simp only [World.size_alloc]; have := HS4.out.2.1.lt; omega) (fun v' w5 hown' hgrow5 hat5 => ?_)
                obtain ⟨va', vc', rfl⟩ := own_shape hown'
                obtain ⟨f0, f1, f2, f3, ff, -⟩ := HS4.out.2.1.at_ hgrow5
                refine hK _ _ ?_
                clear hK K
                try simp only [Act.put, List.setIfInBounds_toArray]
                refine wpAny_take (i := 7) (v := ?vZx3) rfl (by kernel_rfl) (by kernel_rfl) (by kernel_rfl) (fun _ _ _ h => h) (Or.inl ⟨by rfl, ?yZx3⟩) ?rZx3
                case yZx3 => (intro W; first | (go_simp; done) | (go_simp; with_reducible rfl))
                try simp only [Act.put]
                refine wpAny_ready (rs := [8]) (by kernel_rfl) (by simp) ?_
                refine (AllReady.cons rfl (fun K hK => ?_) AllReady.nil)
                go_simp
                refine hK _ _ ?_
                clear hK K
                try simp only [Act.put, List.setIfInBounds_toArray, List.set_cons_zero, List.set_cons_succ]
                refine wpAny_done (by kernel_rfl) ?_ _
                go_wp2_with fail
                go_roundg (N - (t + 1))
                case measure => rw [HGT.out.1]; omega
                case rel =>
                  have hz1 : Z1.heap.size = g0 := HG0.out
                  refine ⟨t + 1, D ++ [(trL L p t, a', c')], _, rfl, rfl, by omega, HS4.out.2.1.step HS4.out.1 HD40.out.2 (fun x hx => .inl (HM.out.out.own.lt x hx).2) (by rw [HGT.out.2.2.1, show stCells (trL L p t, a', c') = [.slice a' m c'] by rw [stCells, HMM.out]]; exact hown') hgrow5 hat5, ?_, ?_⟩
                  · rw [List.map_append, HGT.out.2.1, List.range_succ, List.map_append]; rfl
                  · exact grown_made (HGT.out.2.2.2.trans HS4.out.2.2) hgrow5 (fun x hx => by have := (HM.out.out.own.lt x hx).1; omega) (by omega)
              · go_simp
                refine hK _ _ ?_
                clear hK K
                try simp only [Act.put, List.setIfInBounds_toArray, List.set_cons_zero, List.set_cons_succ]
                refine wpAny_ready (rs := [1, 4]) (by kernel_rfl) (by simp) ?_
                refine (AllReady.cons rfl (fun K hK => ?_) (AllReady.cons rfl (fun K hK => ?_) AllReady.nil))
                · go_simp
                  refine hK _ _ ?_
                  clear hK K
                  try simp only [Act.put, List.setIfInBounds_toArray, List.set_cons_zero, List.set_cons_succ]
                  refine wpAny_ready (rs := [4]) (by kernel_rfl) (by simp) ?_
                  refine (AllReady.cons rfl (fun K hK => ?_) AllReady.nil)
                  go_simp
                  refine (HAT1.out wr.drew (grown_drewN wr 1 none)).mono ?_
                  rintro e w4 ⟨a', c', rfl, hsp, g3⟩
                  have HS4 := Lib.hid (And.intro hsp (HST4.out w4 g3)); clear hsp g3
                  obtain ⟨k0, k1, k2, k3, kf, ko⟩ := HS4.out.2.1
                  have kA := (World.grownBy_alloc w4 (.cells #[.slice a' m c'] 40) none).cell k2 (by simp)
                  have HOW := Lib.hid ko.own; clear ko
                  rw [HGT.out.2.2.1] at HOW
                  go_wp2_with fail
                  try (refine hK _ _ ?_; clear hK K)
                  try simp only [Act.put, List.setIfInBounds_toArray, List.set_cons_zero, List.set_cons_succ]
                  refine wpAny_ready (rs := [5]) (by kernel_rfl) (by simp) ?_
                  refine (AllReady.cons rfl (fun K hK => ?_) AllReady.nil)
                  go_simp
                  refine hK _ _ ?_
                  clear hK K
                  try simp only [Act.put, List.setIfInBounds_toArray, List.set_cons_zero, List.set_cons_succ]
                  refine wpAny_ready (rs := [6]) (by kernel_rfl) (by simp) ?_
                  refine (AllReady.cons rfl (fun K hK => ?_) AllReady.nil)
                  refine ready_append rfl _ _ rfl (g0 + 1) _ t (D.flatMap stCells) rfl (HOW.out.alloc _) ⟨w4.heap.size, 0, none⟩ (.slice a' m c') rfl (cell_one_at _ _ _) rfl (by omega) (by simp only [World.size_alloc]; have := HS4.out.2.1.lt; omega) (fun v' w5 hown' hgrow5 hat5 => ?_)
                  obtain ⟨va', vc', rfl⟩ := own_shape hown'
                  obtain ⟨f0, f1, f2, f3, ff, -⟩ := HS4.out.2.1.at_ hgrow5
                  refine hK _ _ ?_
                  clear hK K
                  try simp only [Act.put, List.setIfInBounds_toArray]
                  refine wpAny_take (i := 7) (v := ?vZx4) rfl (by kernel_rfl) (by kernel_rfl) (by kernel_rfl) (fun _ _ _ h => h) (Or.inl ⟨by rfl, ?yZx4⟩) ?rZx4
                  case yZx4 => (intro W; first | (go_simp; done) | (go_simp; with_reducible rfl))
                  try simp only [Act.put]
                  refine wpAny_ready (rs := [8]) (by kernel_rfl) (by simp) ?_
                  refine (AllReady.cons rfl (fun K hK => ?_) AllReady.nil)
                  go_simp
                  refine hK _ _ ?_
                  clear hK K
                  try simp only [Act.put, List.setIfInBounds_toArray, List.set_cons_zero, List.set_cons_succ]
                  refine wpAny_done (by kernel_rfl) ?_ _
                  go_wp2_with fail
                  go_roundg (N - (t + 1))
                  case measure => rw [HGT.out.1]; omega
                  case rel =>
                    have hz1 : Z1.heap.size = g0 := HG0.out
                    refine ⟨t + 1, D ++ [(trL L p t, a', c')], _, rfl, rfl, by omega, HS4.out.2.1.step HS4.out.1 HD40.out.2 (fun x hx => .inl (HM.out.out.own.lt x hx).2) (by rw [HGT.out.2.2.1, show stCells (trL L p t, a', c') = [.slice a' m c'] by rw [stCells, HMM.out]]; exact hown') hgrow5 hat5, ?_, ?_⟩
                    · rw [List.map_append, HGT.out.2.1, List.range_succ, List.map_append]; rfl
                    · exact grown_made (HGT.out.2.2.2.trans HS4.out.2.2) hgrow5 (fun x hx => by have := (HM.out.out.own.lt x hx).1; omega) (by omega)
                · go_simp
                  refine (HAT1.out wr.drew (grown_drewN wr 1 none)).mono ?_
                  rintro e w4 ⟨a', c', rfl, hsp, g3⟩
                  have HS4 := Lib.hid (And.intro hsp (HST4.out w4 g3)); clear hsp g3
                  obtain ⟨k0, k1, k2, k3, kf, ko⟩ := HS4.out.2.1
                  have kA := (World.grownBy_alloc w4 (.cells #[.slice a' m c'] 40) none).cell k2 (by simp)
                  have HOW := Lib.hid ko.own; clear ko
                  rw [HGT.out.2.2.1] at HOW
                  go_wp2_with fail
                  try (refine hK _ _ ?_; clear hK K)
                  try simp only [Act.put, List.setIfInBounds_toArray, List.set_cons_zero, List.set_cons_succ]
                  refine wpAny_ready (rs := [1, 5]) (by kernel_rfl) (by simp) ?_
                  refine (AllReady.cons rfl (fun K hK => ?_) (AllReady.cons rfl (fun K hK => ?_) AllReady.nil))
                  · go_simp
                    refine hK _ _ ?_
                    clear hK K
                    try simp only [Act.put, List.setIfInBounds_toArray, List.set_cons_zero, List.set_cons_succ]
                    refine wpAny_ready (rs := [5]) (by kernel_rfl) (by simp) ?_
                    refine (AllReady.cons rfl (fun K hK => ?_) AllReady.nil)
                    go_simp
                    refine hK _ _ ?_
                    clear hK K
                    try simp only [Act.put, List.setIfInBounds_toArray, List.set_cons_zero, List.set_cons_succ]
                    refine wpAny_ready (rs := [6]) (by kernel_rfl) (by simp) ?_
                    refine (AllReady.cons rfl (fun K hK => ?_) AllReady.nil)
                    refine ready_append rfl _ _ rfl (g0 + 1) _ t (D.flatMap stCells) rfl (HOW.out.alloc _) ⟨w4.heap.size, 0, none⟩ (.slice a' m c') rfl (cell_one_at _ _ _) rfl (by omega) (by simp only [World.size_alloc]; have := HS4.out.2.1.lt; omega) (fun v' w5 hown' hgrow5 hat5 => ?_)
                    obtain ⟨va', vc', rfl⟩ := own_shape hown'
                    obtain ⟨f0, f1, f2, f3, ff, -⟩ := HS4.out.2.1.at_ hgrow5
                    refine hK _ _ ?_
                    clear hK K
                    try simp only [Act.put, List.setIfInBounds_toArray]
                    refine wpAny_take (i := 7) (v := ?vZx5) rfl (by kernel_rfl) (by kernel_rfl) (by kernel_rfl) (fun _ _ _ h => h) (Or.inl ⟨by rfl, ?yZx5⟩) ?rZx5
                    case yZx5 => (intro W; first | (go_simp; done) | (go_simp; with_reducible rfl))
                    try simp only [Act.put]
                    refine wpAny_ready (rs := [8]) (by kernel_rfl) (by simp) ?_
                    refine (AllReady.cons rfl (fun K hK => ?_) AllReady.nil)
                    go_simp
                    refine hK _ _ ?_
                    clear hK K
                    try simp only [Act.put, List.setIfInBounds_toArray, List.set_cons_zero, List.set_cons_succ]
                    refine wpAny_done (by kernel_rfl) ?_ _
                    go_wp2_with fail
                    go_roundg (N - (t + 1))
                    case measure => rw [HGT.out.1]; omega
                    case rel =>
                      have hz1 : Z1.heap.size = g0 := HG0.out
                      refine ⟨t + 1, D ++ [(trL L p t, a', c')], _, rfl, rfl, by omega, HS4.out.2.1.step HS4.out.1 HD40.out.2 (fun x hx => .inl (HM.out.out.own.lt x hx).2) (by rw [HGT.out.2.2.1, show stCells (trL L p t, a', c') = [.slice a' m c'] by rw [stCells, HMM.out]]; exact hown') hgrow5 hat5, ?_, ?_⟩
                      · rw [List.map_append, HGT.out.2.1, List.range_succ, List.map_append]; rfl
                      · exact grown_made (HGT.out.2.2.2.trans HS4.out.2.2) hgrow5 (fun x hx => by have := (HM.out.out.own.lt x hx).1; omega) (by omega)
                  · go_simp
                    refine hK _ _ ?_
                    clear hK K
                    try simp only [Act.put, List.setIfInBounds_toArray, List.set_cons_zero, List.set_cons_succ]
                    refine wpAny_ready (rs := [1]) (by kernel_rfl) (by simp) ?_
                    refine (AllReady.cons rfl (fun K hK => ?_) AllReady.nil)
                    go_simp
                    refine hK _ _ ?_
                    clear hK K
                    try simp only [Act.put, List.setIfInBounds_toArray, List.set_cons_zero, List.set_cons_succ]
                    refine wpAny_ready (rs := [6]) (by kernel_rfl) (by simp) ?_
                    refine (AllReady.cons rfl (fun K hK => ?_) AllReady.nil)
                    refine ready_append rfl _ _ rfl (g0 + 1) _ t (D.flatMap stCells) rfl (HOW.out.alloc _) ⟨w4.heap.size, 0, none⟩ (.slice a' m c') rfl (cell_one_at _ _ _) rfl (by omega) (by simp only [World.size_alloc]; have := HS4.out.2.1.lt; omega) (fun v' w5 hown' hgrow5 hat5 => ?_)
                    obtain ⟨va', vc', rfl⟩ := own_shape hown'
                    obtain ⟨f0, f1, f2, f3, ff, -⟩ := HS4.out.2.1.at_ hgrow5
                    refine hK _ _ ?_
                    clear hK K
                    try simp only [Act.put, List.setIfInBounds_toArray]
                    refine wpAny_take (i := 7) (v := ?vZx6) rfl (by kernel_rfl) (by kernel_rfl) (by kernel_rfl) (fun _ _ _ h => h) (Or.inl ⟨by rfl, ?yZx6⟩) ?rZx6
                    case yZx6 => (intro W; first | (go_simp; done) | (go_simp; with_reducible rfl))
                    try simp only [Act.put]
                    refine wpAny_ready (rs := [8]) (by kernel_rfl) (by simp) ?_
                    refine (AllReady.cons rfl (fun K hK => ?_) AllReady.nil)
                    go_simp
                    refine hK _ _ ?_
                    clear hK K
                    try simp only [Act.put, List.setIfInBounds_toArray, List.set_cons_zero, List.set_cons_succ]
                    refine wpAny_done (by kernel_rfl) ?_ _
                    go_wp2_with fail
                    go_roundg (N - (t + 1))
                    case measure => rw [HGT.out.1]; omega
                    case rel =>
                      have hz1 : Z1.heap.size = g0 := HG0.out
                      refine ⟨t + 1, D ++ [(trL L p t, a', c')], _, rfl, rfl, by omega, HS4.out.2.1.step HS4.out.1 HD40.out.2 (fun x hx => .inl (HM.out.out.own.lt x hx).2) (by rw [HGT.out.2.2.1, show stCells (trL L p t, a', c') = [.slice a' m c'] by rw [stCells, HMM.out]]; exact hown') hgrow5 hat5, ?_, ?_⟩
                      · rw [List.map_append, HGT.out.2.1, List.range_succ, List.map_append]; rfl
                      · exact grown_made (HGT.out.2.2.2.trans HS4.out.2.2) hgrow5 (fun x hx => by have := (HM.out.out.own.lt x hx).1; omega) (by omega)
            · have hie : t = N := by omega
              subst hie
              have hinB : decide (t < t) = false := by simp
              go_wp2_with fail
              obtain ⟨va2, vc2, hve, hsts⟩ := HM.out.sts
              have HSS : shSts L p = (List.range t).map (trL L p) := by unfold shSts; rw [HNN.out.1]
              rw [HGT.out.2.1, ← HSS] at hve hsts
              injection hve with e4 e5 e6
              subst e4 e6
              obtain ⟨q0, q1, q2, q3, qg⟩ := four_sets (.slice oa n oc) (.int .i64 t) (.slice va t vc) (.int .i64 lo) d0 d1 d2 d3
              refine bodyPost_ret (results30 _ _ (w.heap.size + 1) oa n oc va t vc t lo rfl q0 q1 q2 q3) rfl ⟨oa, oc, va, vc, by rw [HNN.out.1, HNN.out.2, sh_len, HNN.out.1], ?_, ?_⟩
              · have hZ := HZ.out.size
                have hW2 := HFZ.out.1
                have hWV := HG2.out.size
                have hg0 : Z1.heap.size = g0 := HG0.out
                have hZ1 := (HZ1.out.trans hgr).size
                have hww := HG.out.size
                have hsz := qg.size
                have hW1 := HZ1.out.size
                have h1 := (HSP.out.grown hgr).off qg (fun x hx => by cases hx; left; omega)
                have h2 := hsts.off qg (fun x hx => by cases hx; left; omega)
                exact (h1.wide (by omega) (Nat.le_trans hgr.size hsz) (Nat.le_refl _)).both (h2.wide (by omega) hsz (Nat.le_refl _))
              · exact grown_own (HG.out.trans (HZ1.out.trans hgr)) qg (fun x hx => by cases hx; omega)
end Go.Proofs.Ytbddpjofhddilaa
