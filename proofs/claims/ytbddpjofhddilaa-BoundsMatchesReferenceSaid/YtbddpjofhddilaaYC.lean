/- Whether bounds and a model are few; whether all their rows rise. -/
import Derived.Test.YtbddpjofhddilaaYB
namespace Go.Proofs.Ytbddpjofhddilaa
open Go.RowKit

set_option maxRecDepth 100000 in
set_option maxHeartbeats 8000000 in
theorem few_calls (B : List Bd) (ba : Option Addr) (bc : Nat) (sa : Option Addr) (na sc : Nat) (st : Int) (L : List (List Rl)) (ta : Option Addr) (tc : Nat) (lp : Int) (w : World) (hB : Bds w ba bc B) (hT : Sts w ta tc L) :
    Calls Try.prog 41 #[.slice ba B.length bc, .agg #[.slice sa na sc, .int .i64 st, .slice ta L.length tc, .int .i64 lp]] w
      fun e w' => e = .returned (.bool (fewB B L)) ∧ w.grownBy w' none := by
  obtain ⟨f, hf⟩ : ∃ f, B.length = f := ⟨_, rfl⟩
  obtain ⟨k, hk⟩ : ∃ k, L.length = k := ⟨_, rfl⟩
  rw [hf, hk]
  have hg := World.grownBy_alloc w (.cells #[.slice sa na sc, .int .i64 st, .slice ta k tc, .int .i64 lp] 33) none
  have k2 : (w.alloc (.cells #[.slice sa na sc, .int .i64 st, .slice ta k tc, .int .i64 lp] 33)).cell? ⟨w.heap.size, 2, none⟩ = some (.slice ta k tc) := by go_simp
  have HX := Lib.hid (And.intro hf (And.intro hk (And.intro (hB.grown hg) (hT.grown hg)))); clear hf hk hB hT
  have HG := Lib.hid hg; clear hg
  obtain ⟨W, hW⟩ : ∃ W, w.alloc (.cells #[.slice sa na sc, .int .i64 st, .slice ta k tc, .int .i64 lp] 33) = W := ⟨_, rfl⟩
  rw [hW] at HX HG k2
  by_cases q0 : 10 < f
  · have HF : Hid (fewB B L = false) := Lib.hid (few_not (by rintro ⟨h, _⟩; have h1 := HX.out.1; have h2 := HX.out.2.1; omega))
    have f0 : decide (10 < f) = true := decide_eq_true q0
    have g0 : decide (10 < (f : Int)) = true := decide_eq_true (by omega)
    clear q0
    go_enter Try.func41, Try.ntmps41
    go_wp2_with fail
    go_ret
    exact ⟨by rw [HF.out]; rfl, HG.out⟩
  have f0 : decide (10 < f) = false := decide_eq_false q0
  have g0 : decide (10 < (f : Int)) = false := decide_eq_false (by omega)
  by_cases q1 : 10 < k
  · have HF : Hid (fewB B L = false) := Lib.hid (few_not (by rintro ⟨h, _⟩; have h1 := HX.out.1; have h2 := HX.out.2.1; omega))
    have f1 : decide (10 < k) = true := decide_eq_true q1
    have g1 : decide (10 < (k : Int)) = true := decide_eq_true (by omega)
    clear q0 q1
    go_enter Try.func41, Try.ntmps41
    go_wp2_with fail
    go_ret
    exact ⟨by rw [HF.out]; rfl, HG.out⟩
  have f1 : decide (10 < k) = false := decide_eq_false q1
  have g1 : decide (10 < (k : Int)) = false := decide_eq_false (by omega)
  have HQ := Lib.hid (show f ≤ 10 ∧ k ≤ 10 by omega); clear q0 q1
  go_enter Try.func41, Try.ntmps41
  go_wp2_with fail
  clear hW f0 f1 g0 g1
  have hk10 : k ≤ 10 := HQ.out.2
  have hf10 : f ≤ 10 := HQ.out.1
  go_loopg [5] f (fun g s5 wr => ∃ i : Nat, s5 = .int .i64 (i : Int) ∧ g = f - i ∧ i ≤ f ∧ (B.take i).all fewX = true ∧ wr = W)
  case atStart => exact ⟨0, rfl, rfl, Nat.zero_le _, rfl, rfl⟩
  case round =>
    obtain ⟨i, rfl, hgi, hi, hok, rfl⟩ := hrel
    have HI := Lib.hid (And.intro hgi hok); clear hgi hok
    by_cases hin : i < f
    · have hinB : decide (i < f) = true := by simpa using hin
      have hinI : (i : Int) < (f : Int) := by omega
      obtain ⟨x, hx⟩ : ∃ x, B[i]? = some x := ⟨_, List.getElem?_eq_getElem (by rw [HX.out.1]; exact hin)⟩
      obtain ⟨b, o, rfl, hbx⟩ := HX.out.2.2.1.2 i x hx
      obtain ⟨xa1, xk1, xa2, xk2, x0, x1, x2, x3, _, _⟩ := hbx.parts
      obtain ⟨p, hp⟩ : ∃ p, x.1.2.length = p := ⟨_, rfl⟩
      obtain ⟨r, hr⟩ : ∃ p, x.2.2.length = p := ⟨_, rfl⟩
      rw [hp] at x1
      rw [hr] at x3
      have HL := Lib.hid (And.intro hx (And.intro hp hr)); clear hx hp hr hbx x0 x2
      by_cases hp2 : 2000 < p
      · have HF : Hid (fewB B L = false) := Lib.hid (few_not (by
          rintro ⟨_, h, _⟩
          exact all_not HL.out.1 (by rw [fewX, HL.out.2.1, decide_eq_false (by omega)]; rfl) h))
        have f0 : decide (2000 < p) = true := decide_eq_true hp2
        have g0 : decide (2000 < (p : Int)) = true := decide_eq_true (by omega)
        clear hp2
        go_wp2_with fail
        go_ret
        exact ⟨by rw [HF.out]; rfl, HG.out⟩
      have f0 : decide (2000 < p) = false := decide_eq_false hp2
      have g0 : decide (2000 < (p : Int)) = false := decide_eq_false (by omega)
      by_cases hr2 : 2000 < r
      · have HF : Hid (fewB B L = false) := Lib.hid (few_not (by
          rintro ⟨_, h, _⟩
          exact all_not HL.out.1 (by rw [fewX, HL.out.2.2, decide_eq_false (p := r ≤ 2000) (by omega), Bool.and_false]) h))
        have f1 : decide (2000 < r) = true := decide_eq_true hr2
        have g1 : decide (2000 < (r : Int)) = true := decide_eq_true (by omega)
        clear hp2 hr2
        go_wp2_with fail
        go_ret
        exact ⟨by rw [HF.out]; rfl, HG.out⟩
      have f1 : decide (2000 < r) = false := decide_eq_false hr2
      have g1 : decide (2000 < (r : Int)) = false := decide_eq_false (by omega)
      have HS : Hid (fewX x = true) := Lib.hid (by rw [fewX, HL.out.2.1, HL.out.2.2, decide_eq_true (by omega), decide_eq_true (by omega)]; rfl)
      clear hp2 hr2
      go_wp2_with fail
      go_roundg (f - (i + 1))
      case measure => rw [HI.out.1]; omega
      case rel => exact ⟨i + 1, rfl, rfl, by omega, all_take_succ HI.out.2 HL.out.1 HS.out, rfl⟩
    · have hie : i = f := by omega
      subst hie
      have hinB : decide (i < i) = false := by simp
      have HLL : Hid (B.all fewX = true) := Lib.hid (by
        have := HI.out.2
        rwa [List.take_of_length_le (by rw [HX.out.1]; exact Nat.le_refl _)] at this)
      clear hin
      go_wp2_with fail
      clear hinB HI hi
      go_loopg [6, 7] k (fun g s6 s7 wq => ∃ j : Nat, s6 = .int .i64 (j : Int) ∧ g = k - j ∧ j ≤ k ∧ (L.take j).all fewS = true ∧ wq = wr)
      case atStart => exact ⟨0, rfl, rfl, Nat.zero_le _, rfl, rfl⟩
      case round =>
        obtain ⟨j, rfl, hgi, hi, hok, rfl⟩ := hrel
        have HI := Lib.hid (And.intro hgi hok); clear hgi hok
        by_cases hin : j < k
        · have hinB : decide (j < k) = true := by simpa using hin
          have hinI : (j : Int) < (k : Int) := by omega
          obtain ⟨l, hx⟩ : ∃ l, L[j]? = some l := ⟨_, List.getElem?_eq_getElem (by rw [HX.out.2.1]; exact hin)⟩
          obtain ⟨sb, so, rfl, la, lc, e0, hrels⟩ := HX.out.2.2.2.2 j l hx
          obtain ⟨p, hp⟩ : ∃ p, l.length = p := ⟨_, rfl⟩
          rw [hp] at e0
          have HL := Lib.hid (And.intro hx (And.intro hp hrels)); clear hx hp hrels
          by_cases hp10 : 10 < p
          · have HF : Hid (fewB B L = false) := Lib.hid (few_not (by
              rintro ⟨_, _, h⟩
              exact all_not HL.out.1 (by rw [fewS, HL.out.2.1, decide_eq_false (by omega)]; rfl) h))
            have f0 : decide (10 < p) = true := decide_eq_true hp10
            have g0 : decide (10 < (p : Int)) = true := decide_eq_true (by omega)
            clear hp10
            go_wp2_with fail
            go_ret
            exact ⟨by rw [HF.out]; rfl, HG.out⟩
          have f0 : decide (10 < p) = false := decide_eq_false hp10
          have g0 : decide (10 < (p : Int)) = false := decide_eq_false (by omega)
          have hp10' : p ≤ 10 := by omega
          clear hp10
          go_wp2_with fail
          clear f0 g0
          obtain ⟨w5, rfl⟩ : ∃ z, z = wr := ⟨_, rfl⟩
          go_loopg [7] p (fun g s7 wq => ∃ u : Nat, s7 = .int .i64 (u : Int) ∧ g = p - u ∧ u ≤ p ∧ (l.take u).all fewR = true ∧ wq = w5)
          case atStart => exact ⟨0, rfl, rfl, Nat.zero_le _, rfl, rfl⟩
          case round =>
            obtain ⟨u, rfl, hgj, hj, hokj, rfl⟩ := hrel
            have HJ := Lib.hid (And.intro hgj hokj); clear hgj hokj
            by_cases hjn : u < p
            · have hjB : decide (u < p) = true := by simpa using hjn
              have hjI : (u : Int) < (p : Int) := by omega
              obtain ⟨r, hy⟩ : ∃ r, l[u]? = some r := ⟨_, List.getElem?_eq_getElem (by rw [HL.out.2.1]; exact hjn)⟩
              obtain ⟨rb, ro, rfl, r0, ra, rc, r1, _⟩ := HL.out.2.2.2 u r hy
              obtain ⟨z, hz⟩ : ∃ z, r.2.length = z := ⟨_, rfl⟩
              rw [hz] at r1
              have HY := Lib.hid (And.intro hy hz); clear hy hz
              by_cases hz2 : 2000 < z
              · have HF : Hid (fewB B L = false) := Lib.hid (few_not (by
                  rintro ⟨_, _, h⟩
                  refine all_not HL.out.1 ?_ h
                  rw [fewS, Bool.and_eq_false_iff]
                  exact .inr (by rw [List.all_eq_false]; exact ⟨r, List.mem_of_getElem? HY.out.1, by rw [fewR, HY.out.2]; simp; omega⟩)))
                have f0 : decide (2000 < z) = true := decide_eq_true hz2
                have g0 : decide (2000 < (z : Int)) = true := decide_eq_true (by omega)
                clear hz2
                go_wp2_with fail
                go_ret
                exact ⟨by rw [HF.out]; rfl, HG.out⟩
              · have HS : Hid (fewR r = true) := Lib.hid (by rw [fewR, HY.out.2]; exact decide_eq_true (by omega))
                have f0 : decide (2000 < z) = false := decide_eq_false hz2
                have g0 : decide (2000 < (z : Int)) = false := decide_eq_false (by omega)
                clear hz2
                go_wp2_with fail
                go_roundg (p - (u + 1))
                case measure => rw [HJ.out.1]; omega
                case rel => exact ⟨u + 1, rfl, rfl, by omega, all_take_succ HJ.out.2 HY.out.1 HS.out, rfl⟩
            · have hje : u = p := by omega
              subst hje
              have hjB : decide (u < u) = false := by simp
              have HS : Hid (fewS l = true) := Lib.hid (by
                have := HJ.out.2
                rw [List.take_of_length_le (by rw [HL.out.2.1]; exact Nat.le_refl _)] at this
                rw [fewS, this, HL.out.2.1, decide_eq_true hp10']; rfl)
              go_wp2_with fail
              go_roundg (k - (j + 1))
              case measure => rw [HI.out.1]; omega
              case rel => exact ⟨j + 1, rfl, rfl, by omega, all_take_succ HI.out.2 HL.out.1 HS.out, rfl⟩
        · have hje : j = k := by omega
          subst hje
          have hjB : decide (j < j) = false := by simp
          have HYES : Hid (fewB B L = true) := Lib.hid (fewB_iff.2 ⟨⟨by rw [HX.out.1]; exact HQ.out.1, by rw [HX.out.2.1]; exact HQ.out.2⟩, HLL.out, by
            have := HI.out.2
            rwa [List.take_of_length_le (by rw [HX.out.2.1]; exact Nat.le_refl _)] at this⟩)
          go_wp2_with fail
          go_ret
          exact ⟨by rw [HYES.out]; rfl, HG.out⟩

set_option maxRecDepth 100000 in
set_option maxHeartbeats 8000000 in
theorem rising_calls (B : List Bd) (ba : Option Addr) (bc : Nat) (sa : Option Addr) (na sc : Nat) (st : Int) (L : List (List Rl)) (ta : Option Addr) (tc : Nat) (lp : Int) (w : World) (hB : Bds w ba bc B) (hT : Sts w ta tc L) (hfew : fewB B L = true) :
    Calls Try.prog 47 #[.slice ba B.length bc, .agg #[.slice sa na sc, .int .i64 st, .slice ta L.length tc, .int .i64 lp]] w
      fun e w' => e = .returned (.bool (riseB B L)) ∧ w.grownBy w' none := by
  obtain ⟨⟨hfl, hkl⟩, hfx, hfs⟩ := fewB_iff.1 hfew
  obtain ⟨f, hf⟩ : ∃ f, B.length = f := ⟨_, rfl⟩
  obtain ⟨k, hk⟩ : ∃ k, L.length = k := ⟨_, rfl⟩
  rw [hf] at hfl
  rw [hk] at hkl
  rw [hf, hk]
  have hg := World.grownBy_alloc w (.cells #[.slice sa na sc, .int .i64 st, .slice ta k tc, .int .i64 lp] 33) none
  have k2 : (w.alloc (.cells #[.slice sa na sc, .int .i64 st, .slice ta k tc, .int .i64 lp] 33)).cell? ⟨w.heap.size, 2, none⟩ = some (.slice ta k tc) := by go_simp
  have HX := Lib.hid (And.intro hf (And.intro hk (And.intro (hB.grown hg) (And.intro (hT.grown hg) (And.intro hfx hfs))))); clear hf hk hB hT hfx hfs hfew
  have HG := Lib.hid hg; clear hg
  obtain ⟨W, hW⟩ : ∃ W, w.alloc (.cells #[.slice sa na sc, .int .i64 st, .slice ta k tc, .int .i64 lp] 33) = W := ⟨_, rfl⟩
  rw [hW] at HX HG k2
  go_enter Try.func47, Try.ntmps47
  go_wp2_with fail
  clear hW
  have HK := Lib.hid k2; clear k2
  go_loopg [5] f (fun g s5 wr => ∃ i : Nat, s5 = .int .i64 (i : Int) ∧ g = f - i ∧ i ≤ f ∧ (B.take i).all riseX = true ∧ W.grownBy wr none)
  case atStart => exact ⟨0, rfl, rfl, Nat.zero_le _, rfl, grown_refl _ _⟩
  case round =>
    obtain ⟨i, rfl, hgi, hi, hok, hgr⟩ := hrel
    have HI := Lib.hid (And.intro hgi (And.intro hok hgr)); clear hgi hok hgr
    by_cases hin : i < f
    · have hinB : decide (i < f) = true := by simpa using hin
      have hinI : (i : Int) < (f : Int) := by omega
      obtain ⟨x, hx⟩ : ∃ x, B[i]? = some x := ⟨_, List.getElem?_eq_getElem (by rw [HX.out.1]; exact hin)⟩
      obtain ⟨b, o, rfl, hbx⟩ := (HX.out.2.2.1.grown HI.out.2.2).2 i x hx
      obtain ⟨xa1, xk1, xa2, xk2, x0, x1, x2, x3, xi1, xi2⟩ := hbx.parts
      have hxf : x.1.2.length ≤ 2000 ∧ x.2.2.length ≤ 2000 := by
        have h := List.all_eq_true.1 HX.out.2.2.2.2.1 x (List.mem_of_getElem? hx)
        rw [fewX, Bool.and_eq_true, decide_eq_true_eq, decide_eq_true_eq] at h
        exact h
      have HU1 := Lib.hid (up_calls x.1.1 x.1.2 xa1 xk1 wr xi1 (by omega))
      have HU2 := Lib.hid (fun (U : World) (g : wr.grownBy U none) => up_calls x.2.1 x.2.2 xa2 xk2 U (xi2.grown g) (by omega))
      obtain ⟨p, hp⟩ : ∃ p, x.1.2.length = p := ⟨_, rfl⟩
      obtain ⟨r, hr⟩ : ∃ p, x.2.2.length = p := ⟨_, rfl⟩
      obtain ⟨k1, hk1⟩ : ∃ k, x.1.1 = k := ⟨_, rfl⟩
      obtain ⟨k3, hk3⟩ : ∃ k, x.2.1 = k := ⟨_, rfl⟩
      obtain ⟨Q1, hQ1⟩ : ∃ Q, upB x.1.2 = Q := ⟨_, rfl⟩
      obtain ⟨Q2, hQ2⟩ : ∃ Q, upB x.2.2 = Q := ⟨_, rfl⟩
      rw [hp, hk1, hQ1] at HU1
      rw [hr, hk3, hQ2] at HU2
      rw [hk1] at x0
      rw [hk3] at x2
      rw [hp] at x1
      rw [hr] at x3
      have HL := Lib.hid (And.intro hx (And.intro hQ1 hQ2))
      have HXC := Lib.hid (And.intro x2 x3)
      clear hx hp hr hbx x2 x3 xi1 xi2 hk1 hk3 hQ1 hQ2 hxf
      go_wp2_with fail
      clear x0 x1
      refine HU1.out.mono ?_
      rintro e w1 ⟨rfl, g1⟩
      have HG1 := Lib.hid g1; clear g1
      cases Q1 with
      | false =>
        have HF : Hid (riseB B L = false) := Lib.hid (by
          cases h : riseB B L with
          | false => rfl
          | true =>
            rw [riseB, Bool.and_eq_true] at h
            exact absurd h.1 (all_not HL.out.1 (by rw [riseX, HL.out.2.1]; rfl)))
        go_wp2_with fail
        go_ret
        exact ⟨by rw [HF.out]; rfl, HG.out.trans (HI.out.2.2.trans HG1.out)⟩
      | true =>
      have x2 := HG1.out.cell HXC.out.1 (by simp)
      have x3 := HG1.out.cell HXC.out.2 (by simp)
      go_wp2_with fail
      clear x2 x3
      refine (HU2.out w1 HG1.out).mono ?_
      rintro e w2 ⟨rfl, g2⟩
      replace HG1 := Lib.hid (HI.out.2.2.trans (HG1.out.trans g2)); clear g2
      cases Q2 with
      | false =>
        have HF : Hid (riseB B L = false) := Lib.hid (by
          cases h : riseB B L with
          | false => rfl
          | true =>
            rw [riseB, Bool.and_eq_true] at h
            exact absurd h.1 (all_not HL.out.1 (by rw [riseX, HL.out.2.2, Bool.and_false])))
        go_wp2_with fail
        go_ret
        exact ⟨by rw [HF.out]; rfl, HG.out.trans HG1.out⟩
      | true =>
      have HS : Hid (riseX x = true) := Lib.hid (by rw [riseX, HL.out.2.1, HL.out.2.2]; rfl)
      go_wp2_with fail
      go_roundg (f - (i + 1))
      case measure => rw [HI.out.1]; omega
      case rel => exact ⟨i + 1, rfl, rfl, by omega, all_take_succ HI.out.2.1 HL.out.1 HS.out, HG1.out⟩
    · have hie : i = f := by omega
      subst hie
      have hinB : decide (i < i) = false := by simp
      have HLL : Hid (B.all riseX = true) := Lib.hid (by
        have := HI.out.2.1
        rwa [List.take_of_length_le (by rw [HX.out.1]; exact Nat.le_refl _)] at this)
      have HGR := Lib.hid HI.out.2.2
      clear hin
      go_wp2_with fail
      clear hinB HI hi
      obtain ⟨w5, rfl⟩ : ∃ z, z = wr := ⟨_, rfl⟩
      go_loopg [6, 7] k (fun g s6 s7 wq => ∃ j : Nat, s6 = .int .i64 (j : Int) ∧ g = k - j ∧ j ≤ k ∧ (L.take j).all riseS = true ∧ W.grownBy wq none)
      case atStart => exact ⟨0, rfl, rfl, Nat.zero_le _, rfl, HGR.out⟩
      case round =>
        obtain ⟨j, rfl, hgi, hi, hok, hgr⟩ := hrel
        have HI := Lib.hid (And.intro hgi (And.intro hok hgr)); clear hgi hok hgr
        have k2 := HI.out.2.2.cell HK.out (by simp)
        by_cases hin : j < k
        · have hinB : decide (j < k) = true := by simpa using hin
          have hinI : (j : Int) < (k : Int) := by omega
          obtain ⟨l, hx⟩ : ∃ l, L[j]? = some l := ⟨_, List.getElem?_eq_getElem (by rw [HX.out.2.1]; exact hin)⟩
          obtain ⟨sb, so, rfl, la, lc, e0, hrels⟩ := HX.out.2.2.2.1.2 j l hx
          have hlf : l.length ≤ 10 ∧ ∀ r ∈ l, r.2.length ≤ 2000 := by
            have h := List.all_eq_true.1 HX.out.2.2.2.2.2 l (List.mem_of_getElem? hx)
            rw [fewS, Bool.and_eq_true, decide_eq_true_eq, List.all_eq_true] at h
            exact ⟨h.1, fun r hr => of_decide_eq_true (h.2 r hr)⟩
          obtain ⟨p, hp⟩ : ∃ p, l.length = p := ⟨_, rfl⟩
          rw [hp] at e0 hlf
          have hp10 := hlf.1
          have HL := Lib.hid (And.intro hx (And.intro hp (And.intro hrels (And.intro e0 hlf.2)))); clear hx hp hrels hlf e0
          go_wp2_with fail
          clear k2
          obtain ⟨w6, rfl⟩ : ∃ z, z = wr := ⟨_, rfl⟩
          go_loopg [7] p (fun g s7 wq => ∃ u : Nat, s7 = .int .i64 (u : Int) ∧ g = p - u ∧ u ≤ p ∧ (l.take u).all (fun r => upB r.2) = true ∧ W.grownBy wq none)
          case atStart => exact ⟨0, rfl, rfl, Nat.zero_le _, rfl, HI.out.2.2⟩
          case round =>
            obtain ⟨u, rfl, hgj, hj, hokj, hgr⟩ := hrel
            have HJ := Lib.hid (And.intro hgj (And.intro hokj hgr)); clear hgj hokj hgr
            have k2 := HJ.out.2.2.cell HK.out (by simp)
            have e0 := HJ.out.2.2.cell HL.out.2.2.2.1 (by simp)
            by_cases hjn : u < p
            · have hjB : decide (u < p) = true := by simpa using hjn
              have hjI : (u : Int) < (p : Int) := by omega
              obtain ⟨r, hy⟩ : ∃ r, l[u]? = some r := ⟨_, List.getElem?_eq_getElem (by rw [HL.out.2.1]; exact hjn)⟩
              obtain ⟨rb, ro, rfl, r0, ra, rc, r1, ri⟩ := (HL.out.2.2.1.grown HJ.out.2.2).2 u r hy
              have HU := Lib.hid (up_calls r.1 r.2 ra rc _ ri (by have := HL.out.2.2.2.2 r (List.mem_of_getElem? hy); omega))
              obtain ⟨z, hz⟩ : ∃ z, r.2.length = z := ⟨_, rfl⟩
              obtain ⟨k1, hk1⟩ : ∃ k, r.1 = k := ⟨_, rfl⟩
              obtain ⟨Q1, hQ1⟩ : ∃ Q, upB r.2 = Q := ⟨_, rfl⟩
              rw [hz, hk1, hQ1] at HU
              rw [hk1] at r0
              rw [hz] at r1
              have HY := Lib.hid (And.intro hy hQ1); clear hy hz hk1 hQ1 ri
              go_wp2_with fail
              clear r0 r1 k2 e0
              refine HU.out.mono ?_
              rintro e w1 ⟨rfl, g1⟩
              have HG1 := Lib.hid (HJ.out.2.2.trans g1); clear g1
              cases Q1 with
              | false =>
                have HF : Hid (riseB B L = false) := Lib.hid (by
                  cases h : riseB B L with
                  | false => rfl
                  | true =>
                    rw [riseB, Bool.and_eq_true] at h
                    refine absurd h.2 (all_not HL.out.1 ?_)
                    rw [riseS, List.all_eq_false]
                    exact ⟨r, List.mem_of_getElem? HY.out.1, by rw [HY.out.2]; simp⟩)
                go_wp2_with fail
                go_ret
                exact ⟨by rw [HF.out]; rfl, HG.out.trans HG1.out⟩
              | true =>
              go_wp2_with fail
              go_roundg (p - (u + 1))
              case measure => rw [HJ.out.1]; omega
              case rel => exact ⟨u + 1, rfl, rfl, by omega, all_take_succ HJ.out.2.1 HY.out.1 HY.out.2, HG1.out⟩
            · have hje : u = p := by omega
              subst hje
              have hjB : decide (u < u) = false := by simp
              have HS : Hid (riseS l = true) := Lib.hid (by
                have := HJ.out.2.1
                rwa [List.take_of_length_le (by rw [HL.out.2.1]; exact Nat.le_refl _)] at this)
              go_wp2_with fail
              go_roundg (k - (j + 1))
              case measure => rw [HI.out.1]; omega
              case rel => exact ⟨j + 1, rfl, rfl, by omega, all_take_succ HI.out.2.1 HL.out.1 HS.out, HJ.out.2.2⟩
        · have hje : j = k := by omega
          subst hje
          have hjB : decide (j < j) = false := by simp
          have HYES : Hid (riseB B L = true) := Lib.hid (by
            have := HI.out.2.1
            rw [List.take_of_length_le (by rw [HX.out.2.1]; exact Nat.le_refl _)] at this
            rw [riseB, HLL.out, this]; rfl)
          go_wp2_with fail
          go_ret
          exact ⟨by rw [HYES.out]; rfl, HG.out.trans HI.out.2.2⟩
end Go.Proofs.Ytbddpjofhddilaa
