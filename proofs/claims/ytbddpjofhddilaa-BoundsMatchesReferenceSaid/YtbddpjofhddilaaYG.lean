/- Whether a relation lies within a bound, a model within bounds: the reference. -/
import Derived.Test.YtbddpjofhddilaaYC
import Derived.Deep.RegionHeld3
namespace Go.Proofs.Ytbddpjofhddilaa
open Go.RowKit

set_option maxRecDepth 100000 in
set_option maxHeartbeats 4000000 in
theorem within9_calls (x : Bd) (r : Rl) (a1 a2 b1 : Option Addr) (c1 c2 d1 : Nat) (w : World) (h1 : IntsW w a1 c1 x.1.2) (h2 : IntsW w a2 c2 x.2.2) (h3 : IntsW w b1 d1 r.2) (hl : x.1.2.length ≤ 100000 ∧ x.2.2.length ≤ 100000) (hr : r.2.length ≤ 100000) (u1 : Up x.1.2) (u2 : Up x.2.2) (u3 : Up r.2) :
    Calls Try.prog 108 #[bdV x.1.1 a1 x.1.2.length c1 x.2.1 a2 x.2.2.length c2, .agg #[.int .i64 r.1, .slice b1 r.2.length d1]] w
      fun e w' => e = .returned (.bool (withinB x r)) ∧ w.grownBy w' none := by
  obtain ⟨⟨k1, l1⟩, k2, l2⟩ := x
  obtain ⟨m1, r1⟩ := r
  simp only [bdV] at h1 h2 h3 hl hr u1 u2 u3 ⊢
  have HI1 := Lib.hid (fun (W : World) (g : w.grownBy W none) => by
    have h := rIn_calls k1 m1 l1 r1 a1 b1 c1 d1 W (h1.grown g) (h3.grown g) hl.1 hr u3
    rw [lacks_inB u1 u3] at h
    exact h)
  have HI2 := Lib.hid (fun (W : World) (g : w.grownBy W none) => by
    have h := rIn_calls m1 k2 r1 l2 b1 a2 d1 c2 W (h3.grown g) (h2.grown g) hr hl.2 u2
    rw [lacks_inB u3 u2] at h
    exact h)
  have hg := (World.grownBy_alloc w (.cells #[.int .i64 k1, .slice a1 l1.length c1, .int .i64 k2, .slice a2 l2.length c2] 74) none).trans (World.grownBy_alloc _ (.cells #[.int .i64 m1, .slice b1 r1.length d1] 53) none)
  have hcs : let W := (w.alloc (.cells #[.int .i64 k1, .slice a1 l1.length c1, .int .i64 k2, .slice a2 l2.length c2] 74)).alloc (.cells #[.int .i64 m1, .slice b1 r1.length d1] 53)
    (W.cell? ⟨w.heap.size, 0, none⟩ = some (.int .i64 k1) ∧ W.cell? ⟨w.heap.size, 1, none⟩ = some (.slice a1 l1.length c1) ∧ W.cell? ⟨w.heap.size, 2, none⟩ = some (.int .i64 k2) ∧ W.cell? ⟨w.heap.size, 3, none⟩ = some (.slice a2 l2.length c2)) ∧
    W.cell? ⟨w.heap.size + 1, 0, none⟩ = some (.int .i64 m1) ∧ W.cell? ⟨w.heap.size + 1, 1, none⟩ = some (.slice b1 r1.length d1) := ⟨⟨by go_simp, by go_simp, by go_simp, by go_simp⟩, by go_simp, by go_simp⟩
  simp only at hcs
  obtain ⟨W, hW⟩ : ∃ W, (w.alloc (.cells #[.int .i64 k1, .slice a1 l1.length c1, .int .i64 k2, .slice a2 l2.length c2] 74)).alloc (.cells #[.int .i64 m1, .slice b1 r1.length d1] 53) = W := ⟨_, rfl⟩
  rw [hW] at hg hcs
  have HM : Hid (∀ b, b = (decide (k1 = m1) && decide (k2 = m1) && inB l1 r1 && inB r1 l2) → withinB ((k1, l1), k2, l2) (m1, r1) = b) := Lib.hid (fun b h => h.symm)
  obtain ⟨n1, hn1⟩ : ∃ n, l1.length = n := ⟨_, rfl⟩
  obtain ⟨n2, hn2⟩ : ∃ n, l2.length = n := ⟨_, rfl⟩
  obtain ⟨o1, ho1⟩ : ∃ n, r1.length = n := ⟨_, rfl⟩
  obtain ⟨Q1, hQ1⟩ : ∃ Q, inB l1 r1 = Q := ⟨_, rfl⟩
  obtain ⟨Q2, hQ2⟩ : ∃ Q, inB r1 l2 = Q := ⟨_, rfl⟩
  rw [hn1, hn2, ho1] at hcs hW
  rw [hn1, ho1, hQ1] at HI1
  rw [hn2, ho1, hQ2] at HI2
  rw [hQ1, hQ2] at HM
  rw [hn1, hn2, ho1]
  have HG := Lib.hid hg
  have HP := Lib.hid (fun (U : World) (g : W.grownBy U none) => And.intro (g.cell hcs.1.1 (by simp)) (And.intro (g.cell hcs.1.2.1 (by simp)) (And.intro (g.cell hcs.1.2.2.1 (by simp)) (And.intro (g.cell hcs.1.2.2.2 (by simp)) (And.intro (g.cell hcs.2.1 (by simp)) (g.cell hcs.2.2 (by simp)))))))
  clear h1 h2 h3 hl hr u1 u2 u3 hn1 hn2 ho1 hQ1 hQ2 hg hcs
  obtain ⟨R, hR⟩ : ∃ R, withinB ((k1, l1), k2, l2) (m1, r1) = R := ⟨_, rfl⟩
  rw [hR] at HM ⊢
  clear hR
  by_cases q1 : k1 = m1
  rotate_left
  · have f1 : (k1 == m1) = false := by simpa using q1
    have HR := Lib.hid (HM.out false (by simp [q1]))
    clear HM q1
    obtain ⟨p0, p1, p2, p3, p4, p5⟩ := HP.out W (grown_refl _ _)
    go_enter Try.func108, Try.ntmps108
    go_wp2_with fail
    go_ret
    exact ⟨by rw [HR.out]; rfl, HG.out⟩
  have f1 : (k1 == m1) = true := by simpa using q1
  by_cases q2 : k2 = m1
  rotate_left
  · have f2 : (k2 == m1) = false := by simpa using q2
    have HR := Lib.hid (HM.out false (by simp [q2]))
    clear HM q1 q2
    obtain ⟨p0, p1, p2, p3, p4, p5⟩ := HP.out W (grown_refl _ _)
    go_enter Try.func108, Try.ntmps108
    go_wp2_with fail
    go_ret
    exact ⟨by rw [HR.out]; rfl, HG.out⟩
  have f2 : (k2 == m1) = true := by simpa using q2
  rw [decide_eq_true q1, decide_eq_true q2] at HM
  clear q1 q2
  obtain ⟨p0, p1, p2, p3, p4, p5⟩ := HP.out W (grown_refl _ _)
  go_enter Try.func108, Try.ntmps108
  go_wp2_with fail
  clear p0 p1 p2 p3 p4 p5 hW
  refine (HI1.out W HG.out).mono ?_
  rintro e w1 ⟨rfl, g1⟩
  obtain ⟨p0, p1, p2, p3, p4, p5⟩ := HP.out w1 g1
  have HG1 := Lib.hid (HG.out.trans g1); clear g1
  cases Q1 with
  | false =>
    have HR := Lib.hid (HM.out false rfl)
    clear HM
    go_wp2_with fail
    go_ret
    exact ⟨by rw [HR.out]; rfl, HG1.out⟩
  | true =>
  have HR := Lib.hid (HM.out Q2 (by simp))
  clear HM
  go_wp2_with fail
  refine (HI2.out w1 HG1.out).mono ?_
  rintro e w2 ⟨rfl, g2⟩
  have HG2 := Lib.hid (HG1.out.trans g2); clear g2
  go_wp2_with fail
  go_ret
  exact ⟨by rw [HR.out]; rfl, HG2.out⟩

set_option maxRecDepth 100000 in
set_option maxHeartbeats 8000000 in
theorem rContains_calls (B : List Bd) (L : List (List Rl)) (a ta sa : Option Addr) (c tc sc ns : Nat) (st lp : Int) (w : World) (h : Bds w a c B) (hT : Sts w ta tc L) (hfew : fewB B L = true) (hup : riseB B L = true) :
    Calls Try.prog 52 #[.slice a B.length c, .agg #[.slice sa ns sc, .int .i64 st, .slice ta L.length tc, .int .i64 lp]] w fun e w' => e = .returned (.bool (containsB B L)) ∧ w.grownBy w' none := by
  obtain ⟨⟨hfl, hkl⟩, hfx, hfs⟩ := fewB_iff.1 hfew
  obtain ⟨hrx, hrs⟩ : B.all riseX = true ∧ L.all riseS = true := by rw [riseB, Bool.and_eq_true] at hup; exact hup
  obtain ⟨f, hf⟩ : ∃ f, B.length = f := ⟨_, rfl⟩
  obtain ⟨k, hk⟩ : ∃ k, L.length = k := ⟨_, rfl⟩
  rw [hf] at hfl
  rw [hk] at hkl
  rw [hf, hk]
  have hg := World.grownBy_alloc w (.cells #[.slice sa ns sc, .int .i64 st, .slice ta k tc, .int .i64 lp] 33) none
  have k2 : (w.alloc (.cells #[.slice sa ns sc, .int .i64 st, .slice ta k tc, .int .i64 lp] 33)).cell? ⟨w.heap.size, 2, none⟩ = some (.slice ta k tc) := by go_simp
  have HX := Lib.hid (And.intro hf (And.intro hk (And.intro (h.grown hg) (hT.grown hg))))
  have HXX : Hid (∀ x ∈ B, (x.1.2.length ≤ 100000 ∧ x.2.2.length ≤ 100000) ∧ Up x.1.2 ∧ Up x.2.2) := Lib.hid (fun x hx => by
    have h1 := List.all_eq_true.1 hfx x hx
    have h2 := List.all_eq_true.1 hrx x hx
    rw [fewX, Bool.and_eq_true, decide_eq_true_eq, decide_eq_true_eq] at h1
    rw [riseX, Bool.and_eq_true, upB_iff, upB_iff] at h2
    exact ⟨by omega, h2.1.1, h2.2.1⟩)
  have HLX : Hid (∀ l ∈ L, l.length ≤ 10 ∧ ∀ r ∈ l, r.2.length ≤ 100000 ∧ Up r.2) := Lib.hid (fun l hl => by
    have h1 := List.all_eq_true.1 hfs l hl
    have h2 := List.all_eq_true.1 hrs l hl
    rw [fewS, Bool.and_eq_true, decide_eq_true_eq, List.all_eq_true] at h1
    rw [riseS, List.all_eq_true] at h2
    refine ⟨h1.1, fun r hr => ⟨?_, (upB_iff.1 (h2 r hr)).1⟩⟩
    have := of_decide_eq_true (h1.2 r hr)
    omega)
  clear hf hk h hT hfx hfs hfew hrx hrs hup
  have HG := Lib.hid hg; clear hg
  obtain ⟨W, hW⟩ : ∃ W, w.alloc (.cells #[.slice sa ns sc, .int .i64 st, .slice ta k tc, .int .i64 lp] 33) = W := ⟨_, rfl⟩
  rw [hW] at HX HG k2
  go_enter Try.func52, Try.ntmps52
  go_wp2_with fail
  clear hW
  have HK := Lib.hid k2; clear k2
  go_loopg [5, 6] k (fun g s5 s6 wr => ∃ i : Nat, s5 = .int .i64 (i : Int) ∧ g = k - i ∧ i ≤ k ∧ (L.take i).all (allB withinB B) = true ∧ W.grownBy wr none)
  case atStart => exact ⟨0, rfl, rfl, Nat.zero_le _, rfl, grown_refl _ _⟩
  case round =>
    obtain ⟨i, rfl, hgi, hi, hok, hgr⟩ := hrel
    have HI := Lib.hid (And.intro hgi (And.intro hok hgr)); clear hgi hok hgr
    have k2 := HI.out.2.2.cell HK.out (by simp)
    by_cases hin : i < k
    · have hinB : decide (i < k) = true := by simpa using hin
      have hinI : (i : Int) < (k : Int) := by omega
      obtain ⟨l, hx⟩ : ∃ l, L[i]? = some l := ⟨_, List.getElem?_eq_getElem (by rw [HX.out.2.1]; exact hin)⟩
      obtain ⟨sb, so, rfl, la, lc, e0, hrels⟩ := HX.out.2.2.2.2 i l hx
      have hll := HLX.out l (List.mem_of_getElem? hx)
      obtain ⟨p, hp⟩ : ∃ p, l.length = p := ⟨_, rfl⟩
      rw [hp] at e0 hll
      have hp10 := hll.1
      have HL := Lib.hid (And.intro hx (And.intro hp (And.intro hrels (And.intro e0 hll.2)))); clear hx hp hrels hll e0
      have e0 := HI.out.2.2.cell HL.out.2.2.2.1 (by simp)
      have HNO : Hid (allB withinB B l = false → containsB B L = false) := Lib.hid (fun h => by
        cases hc : containsB B L with
        | false => rfl
        | true => exact absurd hc (all_not HL.out.1 h))
      by_cases hpf : p = f
      rotate_left
      · have f0 : ((p : Int) != (f : Int)) = true := by simp; omega
        have HF : Hid (containsB B L = false) := Lib.hid (HNO.out (by
          cases hc : allB withinB B l with
          | false => rfl
          | true =>
            have := (allB_iff.1 hc).1
            have h1 := HX.out.1
            have h2 := HL.out.2.1
            omega))
        clear hpf
        go_wp2_with fail
        go_ret
        exact ⟨by rw [HF.out]; rfl, HG.out.trans HI.out.2.2⟩
      have f0 : ((p : Int) != (f : Int)) = false := by simp; omega
      have HPF := Lib.hid hpf; clear hpf
      go_wp2_with fail
      clear k2 e0 f0
      obtain ⟨w5, rfl⟩ : ∃ z, z = wr := ⟨_, rfl⟩
      go_loopg [6] f (fun g s6 wr => ∃ u : Nat, s6 = .int .i64 (u : Int) ∧ g = f - u ∧ u ≤ f ∧ (∀ (j : Nat) (x : Bd) (y : Rl), j < u → B[j]? = some x → l[j]? = some y → withinB x y = true) ∧ W.grownBy wr none)
      case atStart => exact ⟨0, rfl, rfl, Nat.zero_le _, fun j _ _ hj => absurd hj (Nat.not_lt_zero _), HI.out.2.2⟩
      case round =>
        obtain ⟨u, rfl, hgj, hj, hokj, hgr⟩ := hrel
        have HJ := Lib.hid (And.intro hgj (And.intro hokj hgr)); clear hgj hokj hgr
        by_cases hjn : u < f
        · have hjB : decide (u < f) = true := by simpa using hjn
          have hjI : (u : Int) < (f : Int) := by omega
          have hjP : (u : Int) < (p : Int) := by have := HPF.out; omega
          obtain ⟨x, hx⟩ : ∃ x, B[u]? = some x := ⟨_, List.getElem?_eq_getElem (by rw [HX.out.1]; exact hjn)⟩
          obtain ⟨r, hy⟩ : ∃ r, l[u]? = some r := ⟨_, List.getElem?_eq_getElem (by rw [HL.out.2.1, HPF.out]; exact hjn)⟩
          obtain ⟨b, o, rfl, hbx⟩ := HX.out.2.2.1.2 u x hx
          obtain ⟨xa1, xk1, xa2, xk2, x0, x1, x2, x3, xi1, xi2⟩ := hbx.parts
          obtain ⟨rb, ro, rfl, r0, ra, rc, r1, ri⟩ := HL.out.2.2.1.2 u r hy
          have hxx := HXX.out x (List.mem_of_getElem? hx)
          have hrr := HL.out.2.2.2.2 r (List.mem_of_getElem? hy)
          have HWI := Lib.hid (fun (U : World) (g : W.grownBy U none) => within9_calls x r xa1 xa2 ra xk1 xk2 rc U (xi1.grown g) (xi2.grown g) (ri.grown g) hxx.1 hrr.1 hxx.2.1 hxx.2.2 hrr.2)
          simp only [bdV] at HWI
          obtain ⟨k1, hk1⟩ : ∃ k, x.1.1 = k := ⟨_, rfl⟩
          obtain ⟨k3, hk3⟩ : ∃ k, x.2.1 = k := ⟨_, rfl⟩
          obtain ⟨k4, hk4⟩ : ∃ k, r.1 = k := ⟨_, rfl⟩
          obtain ⟨n1, hn1⟩ : ∃ n, x.1.2.length = n := ⟨_, rfl⟩
          obtain ⟨n2, hn2⟩ : ∃ n, x.2.2.length = n := ⟨_, rfl⟩
          obtain ⟨n3, hn3⟩ : ∃ n, r.2.length = n := ⟨_, rfl⟩
          obtain ⟨Q, hQ⟩ : ∃ Q, withinB x r = Q := ⟨_, rfl⟩
          rw [hk1, hk3, hk4, hn1, hn2, hn3, hQ] at HWI
          rw [hk1] at x0
          rw [hn1] at x1
          rw [hk3] at x2
          rw [hn2] at x3
          rw [hk4] at r0
          rw [hn3] at r1
          have HY := Lib.hid (And.intro hx (And.intro hy hQ))
          have m0 := HK.out
          have m1 := HL.out.2.2.2.1
          clear hx hy hbx xi1 xi2 ri hxx hrr hk1 hk3 hk4 hn1 hn2 hn3 hQ
          go_wp2_with fail
          have HS := Lib.hid (fun (Wh : World) (hWh : W.grownBy Wh none) => (⟨hWh, hWh.cell m0 (by simp), hWh.cell m1 (by simp), hWh.cell x0 (by simp), hWh.cell x1 (by simp), hWh.cell x2 (by simp), hWh.cell x3 (by simp), hWh.cell r0 (by simp), hWh.cell r1 (by simp)⟩ : (fun Wh : World => W.grownBy Wh none ∧ Wh.cell? ⟨w.heap.size, 2, none⟩ = some (.slice (some ⟨sb, so, none⟩) k tc) ∧ Wh.cell? ⟨sb, so + i, none⟩ = some (.slice (some ⟨rb, ro, none⟩) p lc) ∧ Wh.cell? ⟨b, o + u * 4, none⟩ = some (.int .i64 k1) ∧ Wh.cell? ⟨b, o + u * 4 + 1, none⟩ = some (.slice xa1 n1 xk1) ∧ Wh.cell? ⟨b, o + u * 4 + 2, none⟩ = some (.int .i64 k3) ∧ Wh.cell? ⟨b, o + u * 4 + 3, none⟩ = some (.slice xa2 n2 xk2) ∧ Wh.cell? ⟨rb, ro + u * 2, none⟩ = some (.int .i64 k4) ∧ Wh.cell? ⟨rb, ro + u * 2 + 1, none⟩ = some (.slice ra n3 rc)) Wh))
          clear m0 m1 x0 x1 x2 x3 r0 r1
          have hdr : W.grownBy wr.drew none := World.grownBy.trans HJ.out.2.2 (⟨rfl, rfl, rfl, Nat.le_refl _, fun _ _ _ => rfl⟩ : wr.grownBy wr.drew none)
          refine wp_region_held_drew (S := (fun Wh : World => W.grownBy Wh none ∧ Wh.cell? ⟨w.heap.size, 2, none⟩ = some (.slice (some ⟨sb, so, none⟩) k tc) ∧ Wh.cell? ⟨sb, so + i, none⟩ = some (.slice (some ⟨rb, ro, none⟩) p lc) ∧ Wh.cell? ⟨b, o + u * 4, none⟩ = some (.int .i64 k1) ∧ Wh.cell? ⟨b, o + u * 4 + 1, none⟩ = some (.slice xa1 n1 xk1) ∧ Wh.cell? ⟨b, o + u * 4 + 2, none⟩ = some (.int .i64 k3) ∧ Wh.cell? ⟨b, o + u * 4 + 3, none⟩ = some (.slice xa2 n2 xk2) ∧ Wh.cell? ⟨rb, ro + u * 2, none⟩ = some (.int .i64 k4) ∧ Wh.cell? ⟨rb, ro + u * 2 + 1, none⟩ = some (.slice ra n3 rc))) (by kernel_rfl) (HS.out _ hdr) (fun hHeld => ?_)
          refine wpAnyH_take (i := 0) (oi := { dst := some 29, op := Op.move (Operand.tmp 0), type := 57, pos := "ref.go:50", after := #[], guard := none }) (v := ?_) rfl (by kernel_rfl) (by kernel_rfl) (by kernel_rfl) (fun _ _ _ h => h) (Or.inl ⟨by rfl, ?_⟩) (by assumption) ?_
          rotate_left 1
          · (intro W hSW; (try dsimp only at hSW); first | (go_simp; done) | (go_simp; with_reducible rfl))
          try simp only [Act.put, List.setIfInBounds_toArray, List.set_cons_zero, List.set_cons_succ]
          refine wpAnyH_take (i := 1) (oi := { dst := some 30, op := Op.move (Operand.tmp 6), type := 3, pos := "ref.go:50", after := #[], guard := none }) (v := ?_) rfl (by kernel_rfl) (by kernel_rfl) (by kernel_rfl) (fun _ _ _ h => h) (Or.inl ⟨by rfl, ?_⟩) (by assumption) ?_
          rotate_left 1
          · (intro W hSW; (try dsimp only at hSW); first | (go_simp; done) | (go_simp; with_reducible rfl))
          try simp only [Act.put, List.setIfInBounds_toArray, List.set_cons_zero, List.set_cons_succ]
          refine wpAnyH_take (i := 2) (oi := { dst := some 31, op := Op.indexAddr 57 (Operand.tmp 29) (Operand.tmp 30), type := 0, pos := "ref.go:50", after := #[{ on := 0, ground := Ground.data }, { on := 1, ground := Ground.data }], guard := none }) (v := ?_) rfl (by kernel_rfl) (by kernel_rfl) (by kernel_rfl) (fun _ _ _ h => h) (Or.inl ⟨by rfl, ?_⟩) (by assumption) ?_
          rotate_left 1
          · (intro W hSW; (try dsimp only at hSW); first | (go_simp; done) | (go_simp; with_reducible rfl))
          try simp only [Act.put, List.setIfInBounds_toArray, List.set_cons_zero, List.set_cons_succ]
          refine wpAnyH_take (i := 3) (oi := { dst := some 32, op := Op.load 74 (Operand.tmp 31), type := 74, pos := "ref.go:50", after := #[{ on := 2, ground := Ground.data }], guard := none }) (v := ?_) rfl (by kernel_rfl) (by kernel_rfl) (by kernel_rfl) (fun _ _ _ h => h) (Or.inl ⟨by rfl, ?_⟩) (by assumption) ?_
          rotate_left 1
          · (intro W hSW; (try dsimp only at hSW); first | (go_simp; done) | (go_simp; with_reducible rfl))
          try simp only [Act.put, List.setIfInBounds_toArray, List.set_cons_zero, List.set_cons_succ]
          refine wpAnyH_take (i := 4) (oi := { dst := some 33, op := Op.fieldAddr 33 (Operand.tmp 3) 1, type := 0, pos := "ref.go:50", after := #[], guard := none }) (v := ?_) rfl (by kernel_rfl) (by kernel_rfl) (by kernel_rfl) (fun _ _ _ h => h) (Or.inl ⟨by rfl, ?_⟩) (by assumption) ?_
          rotate_left 1
          · (intro W hSW; (try dsimp only at hSW); first | (go_simp; done) | (go_simp; with_reducible rfl))
          try simp only [Act.put, List.setIfInBounds_toArray, List.set_cons_zero, List.set_cons_succ]
          refine wpAnyH_take (i := 5) (oi := { dst := some 34, op := Op.load 31 (Operand.tmp 33), type := 31, pos := "ref.go:50", after := #[{ on := 4, ground := Ground.data }], guard := none }) (v := ?_) rfl (by kernel_rfl) (by kernel_rfl) (by kernel_rfl) (fun _ _ _ h => h) (Or.inl ⟨by rfl, ?_⟩) (by assumption) ?_
          rotate_left 1
          · (intro W hSW; (try dsimp only at hSW); first | (go_simp; done) | (go_simp; with_reducible rfl))
          try simp only [Act.put, List.setIfInBounds_toArray, List.set_cons_zero, List.set_cons_succ]
          refine wpAnyH_take (i := 6) (oi := { dst := some 35, op := Op.move (Operand.tmp 5), type := 3, pos := "ref.go:50", after := #[], guard := none }) (v := ?_) rfl (by kernel_rfl) (by kernel_rfl) (by kernel_rfl) (fun _ _ _ h => h) (Or.inl ⟨by rfl, ?_⟩) (by assumption) ?_
          rotate_left 1
          · (intro W hSW; (try dsimp only at hSW); first | (go_simp; done) | (go_simp; with_reducible rfl))
          try simp only [Act.put, List.setIfInBounds_toArray, List.set_cons_zero, List.set_cons_succ]
          refine wpAnyH_take (i := 7) (oi := { dst := some 36, op := Op.indexAddr 31 (Operand.tmp 34) (Operand.tmp 35), type := 0, pos := "ref.go:50", after := #[{ on := 5, ground := Ground.data }, { on := 6, ground := Ground.data }], guard := none }) (v := ?_) rfl (by kernel_rfl) (by kernel_rfl) (by kernel_rfl) (fun _ _ _ h => h) (Or.inl ⟨by rfl, ?_⟩) (by assumption) ?_
          rotate_left 1
          · (intro W hSW; (try dsimp only at hSW); first | (go_simp; done) | (go_simp; with_reducible rfl))
          try simp only [Act.put, List.setIfInBounds_toArray, List.set_cons_zero, List.set_cons_succ]
          refine wpAnyH_take (i := 8) (oi := { dst := some 37, op := Op.load 40 (Operand.tmp 36), type := 40, pos := "ref.go:50", after := #[{ on := 7, ground := Ground.data }], guard := none }) (v := ?_) rfl (by kernel_rfl) (by kernel_rfl) (by kernel_rfl) (fun _ _ _ h => h) (Or.inl ⟨by rfl, ?_⟩) (by assumption) ?_
          rotate_left 1
          · (intro W hSW; (try dsimp only at hSW); first | (go_simp; done) | (go_simp; with_reducible rfl))
          try simp only [Act.put, List.setIfInBounds_toArray, List.set_cons_zero, List.set_cons_succ]
          refine wpAnyH_take (i := 9) (oi := { dst := some 38, op := Op.move (Operand.tmp 6), type := 3, pos := "ref.go:50", after := #[], guard := none }) (v := ?_) rfl (by kernel_rfl) (by kernel_rfl) (by kernel_rfl) (fun _ _ _ h => h) (Or.inl ⟨by rfl, ?_⟩) (by assumption) ?_
          rotate_left 1
          · (intro W hSW; (try dsimp only at hSW); first | (go_simp; done) | (go_simp; with_reducible rfl))
          try simp only [Act.put, List.setIfInBounds_toArray, List.set_cons_zero, List.set_cons_succ]
          refine wpAnyH_take (i := 10) (oi := { dst := some 39, op := Op.indexAddr 40 (Operand.tmp 37) (Operand.tmp 38), type := 0, pos := "ref.go:50", after := #[{ on := 8, ground := Ground.data }, { on := 9, ground := Ground.data }], guard := none }) (v := ?_) rfl (by kernel_rfl) (by kernel_rfl) (by kernel_rfl) (fun _ _ _ h => h) (Or.inl ⟨by rfl, ?_⟩) (by assumption) ?_
          rotate_left 1
          · (intro W hSW; (try dsimp only at hSW); first | (go_simp; done) | (go_simp; with_reducible rfl))
          try simp only [Act.put, List.setIfInBounds_toArray, List.set_cons_zero, List.set_cons_succ]
          refine wpAnyH_take (i := 11) (oi := { dst := some 40, op := Op.load 53 (Operand.tmp 39), type := 53, pos := "ref.go:50", after := #[{ on := 10, ground := Ground.data }], guard := none }) (v := ?_) rfl (by kernel_rfl) (by kernel_rfl) (by kernel_rfl) (fun _ _ _ h => h) (Or.inl ⟨by rfl, ?_⟩) (by assumption) ?_
          rotate_left 1
          · (intro W hSW; (try dsimp only at hSW); first | (go_simp; done) | (go_simp; with_reducible rfl))
          try simp only [Act.put, List.setIfInBounds_toArray, List.set_cons_zero, List.set_cons_succ]
          refine wpAnyH_ready (rs := [12]) (by kernel_rfl) (by simp) ?_
          refine (AllReadyH.cons (o := { dst := some 41, op := Op.call { callee := Callee.value (Operand.func 108), args := #[Operand.tmp 32, Operand.tmp 40], argTypes := #[74, 53] }, type := 4, pos := "ref.go:50", after := #[{ on := 3, ground := Ground.data }, { on := 11, ground := Ground.data }], guard := none }) rfl (fun K hK => ?_) AllReadyH.nil)
          rw [if_pos (by rfl)]
          go_simp
          go_at_call 108
          refine (HWI.out _ (hdr)).mono ?_
          rintro e wc1 ⟨rfl, gc1⟩
          have hgr1 := World.grownBy.trans hdr gc1
          go_wp2_with fail
          refine hK.out _ _ (HS.out _ hgr1) (fun hHeld => ?_)
          clear hK K
          try simp only [Act.put, List.setIfInBounds_toArray, List.set_cons_zero, List.set_cons_succ]
          refine wpAnyH_take (i := 13) (oi := { dst := some 42, op := Op.unOp UnOp.not 4 (Operand.tmp 41), type := 4, pos := "ref.go:50", after := #[{ on := 12, ground := Ground.data }], guard := none }) (v := ?_) rfl (by kernel_rfl) (by kernel_rfl) (by kernel_rfl) (fun _ _ _ h => h) (Or.inl ⟨by rfl, ?_⟩) (by assumption) ?_
          rotate_left 1
          · (intro W hSW; (try dsimp only at hSW); first | (go_simp; done) | (go_simp; with_reducible rfl))
          try simp only [Act.put, List.setIfInBounds_toArray, List.set_cons_zero, List.set_cons_succ]
          refine wpAnyH_done (by kernel_rfl) ?_ _
          have hEND := hgr1
          clear hHeld
          have HE := Lib.hid hEND
          clear hEND
          cases Q with
          | true =>
            have HS2 : Hid (∀ (j : Nat) (x' : Bd) (y : Rl), j < u + 1 → B[j]? = some x' → l[j]? = some y → withinB x' y = true) := Lib.hid (fun j x' y hj hx hy => by
              by_cases hju : j = u
              · subst hju
                rw [HY.out.1] at hx
                rw [HY.out.2.1] at hy
                cases hx
                cases hy
                exact HY.out.2.2
              · exact HJ.out.2.1 j x' y (by omega) hx hy)
            go_wp2_with fail
            go_roundg (f - (u + 1))
            case measure => rw [HJ.out.1]; omega
            case rel => exact ⟨u + 1, rfl, rfl, by omega, HS2.out, HE.out⟩
          | false =>
            have HF : Hid (containsB B L = false) := Lib.hid (HNO.out (by
              cases hc : allB withinB B l with
              | false => rfl
              | true =>
                have := (allB_iff.1 hc).2 u x r HY.out.1 HY.out.2.1
                rw [HY.out.2.2] at this
                cases this))
            go_wp2_with fail
            go_ret
            exact ⟨by rw [HF.out]; rfl, HG.out.trans HE.out⟩
        · have hje : u = f := by omega
          subst hje
          have hjB : decide (u < u) = false := by simp
          have HS : Hid (allB withinB B l = true) := Lib.hid (allB_iff.2 ⟨by rw [HX.out.1, HL.out.2.1, HPF.out], fun j x y hx hy => HJ.out.2.1 j x y (by have := (List.getElem?_eq_some_iff.1 hx).1; rw [HX.out.1] at this; exact this) hx hy⟩)
          go_wp2_with fail
          go_roundg (k - (i + 1))
          case measure => rw [HI.out.1]; omega
          case rel => exact ⟨i + 1, rfl, rfl, by omega, all_take_succ HI.out.2.1 HL.out.1 HS.out, HJ.out.2.2⟩
    · have hie : i = k := by omega
      subst hie
      have hinB : decide (i < i) = false := by simp
      have HYES : Hid (containsB B L = true) := Lib.hid (by
        have := HI.out.2.1
        rw [List.take_of_length_le (by rw [HX.out.2.1]; exact Nat.le_refl _)] at this
        exact this)
      go_wp2_with fail
      go_ret
      exact ⟨by rw [HYES.out]; rfl, HG.out.trans HI.out.2.2⟩
end Go.Proofs.Ytbddpjofhddilaa
