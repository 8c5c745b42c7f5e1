/- Two proofs are compared, step by step. -/
import Derived.Test.YtgeidnfigncepaaDoorD
namespace Go.Proofs.YtgeidnfigncepaaDoor
open Go.RowKit

theorem list_ne {α : Type} {xs ys : List α} {i : Nat} {x y : α} (hx : xs[i]? = some x) (hy : ys[i]? = some y) (h : x ≠ y) : xs ≠ ys := by
  rintro rfl; rw [hx] at hy; cases hy; exact h rfl
theorem list_eq {α : Type} {xs ys : List α} {n : Nat} (hx : xs.length = n) (hy : ys.length = n) (h : ∀ j, j < n → xs[j]? = ys[j]?) : xs = ys := by
  apply List.ext_getElem?
  intro j
  by_cases hj : j < n
  · exact h j hj
  · rw [List.getElem?_eq_none (by omega), List.getElem?_eq_none (by omega)]
theorem agree_step {α : Type} {xs ys : List α} {i : Nat} (h : ∀ j, j < i → xs[j]? = ys[j]?) (hi : xs[i]? = ys[i]?) : ∀ j, j < i + 1 → xs[j]? = ys[j]? := by
  intro j hj
  by_cases hji : j < i
  · exact h j hji
  · have : j = i := by omega
    subst this; exact hi

set_option maxRecDepth 100000 in
set_option maxHeartbeats 4000000 in
theorem rEqual_calls (l m : List St) (a a' : Option Addr) (c c' : Nat) (w : World) (h : Steps w a c l) (h' : Steps w a' c' m) (hl : (l.length : Int) ≤ 9223372036854775807) (hlits : ∀ x ∈ l, (x.2.1.length : Int) ≤ 9223372036854775807) :
    Calls Tryd.prog 15 #[.slice a l.length c, .slice a' m.length c'] w fun e w' => e = .returned (.bool (decide (l = m))) ∧ ∃ q, w' = w.drewN q := by
  obtain ⟨n, hn⟩ : ∃ n, l.length = n := ⟨_, rfl⟩
  obtain ⟨n', hn'⟩ : ∃ n', m.length = n' := ⟨_, rfl⟩
  rw [hn] at hl ⊢
  rw [hn']
  have HN := Lib.hid (And.intro hn hn')
  have HH := Lib.hid (And.intro h (And.intro h' hlits)); clear h h' hlits
  by_cases hnm : n = n'
  · have hB : ((n : Int) != (n' : Int)) = false := by simp; omega
    subst hnm
    clear hn hn'
    go_enter Tryd.func15, Tryd.ntmps15
    go_wp2
    go_loopg [5] n (fun g s5 wr => ∃ i : Nat, s5 = .int .i64 (i : Int) ∧ g = n - i ∧ i ≤ n ∧ (∀ j, j < i → l[j]? = m[j]?) ∧ ∃ q, wr = w.drewN q)
    case atStart => exact ⟨0, rfl, rfl, Nat.zero_le _, fun j hj => absurd hj (Nat.not_lt_zero _), 0, rfl⟩
    case round =>
      obtain ⟨i, rfl, hgi, hi, hok, q, rfl⟩ := hrel
      have HGI := Lib.hid (And.intro hgi hok); clear hgi hok
      by_cases hin : i < n
      · have hinB : decide (i < n) = true := by simpa using hin
        have hinI : (i : Int) < (n : Int) := by omega
        obtain ⟨x, hx⟩ : ∃ x, l[i]? = some x := ⟨_, List.getElem?_eq_getElem (by rw [HN.out.1]; exact hin)⟩
        obtain ⟨y, hy⟩ : ∃ y, m[i]? = some y := ⟨_, List.getElem?_eq_getElem (by rw [HN.out.2]; exact hin)⟩
        obtain ⟨b, o, rfl, c0, ⟨la, lc, c1, hints⟩, c2⟩ := HH.out.1.2 i x hx
        obtain ⟨b', o', rfl, d0, ⟨la', lc', d1, hints'⟩, d2⟩ := HH.out.2.1.2 i y hy
        have hklt := HH.out.2.2 x (List.mem_of_getElem? hx)
        obtain ⟨kx, lx, sx⟩ := x
        obtain ⟨ky, ly, sy⟩ := y
        simp only at c0 c1 c2 d0 d1 d2 hints hints' hklt
        obtain ⟨p, hp⟩ : ∃ p, lx.length = p := ⟨_, rfl⟩
        obtain ⟨p', hp'⟩ : ∃ p', ly.length = p' := ⟨_, rfl⟩
        rw [hp] at c1 hklt
        rw [hp'] at d1
        have HX := Lib.hid (And.intro hx (And.intro hy (And.intro hp hp'))); clear hx hy hp hp'
        have HI := Lib.hid (And.intro hints hints'); clear hints hints'
        by_cases hk : kx = ky
        · have k1 : (kx != ky) = false := by simpa using hk
          by_cases hs : sx = sy
          · have k2 : (sx != sy) = false := by simpa using hs
            by_cases hpp : p = p'
            · have k3 : ((p : Int) != (p' : Int)) = false := by simp; omega
              subst hk hs hpp
              go_wp2
              go_quiet (fail)
              go_wp2
              go_loopg [6] p (fun g s6 wr => ∃ j : Nat, s6 = .int .i64 (j : Int) ∧ g = p - j ∧ j ≤ p ∧ (∀ t, t < j → lx[t]? = ly[t]?) ∧ ∃ q, wr = w.drewN q)
              case atStart => exact ⟨0, rfl, rfl, Nat.zero_le _, fun j hj => absurd hj (Nat.not_lt_zero _), _, World.drewN_drewN _ _ _⟩
              case round =>
                obtain ⟨j, rfl, hgj, hj, hokj, q2, rfl⟩ := hrel
                have HGJ := Lib.hid (And.intro hgj hokj); clear hgj hokj
                by_cases hjp : j < p
                · have hjB : decide (j < p) = true := by simpa using hjp
                  have hjI : (j : Int) < (p : Int) := by omega
                  obtain ⟨u, hu⟩ : ∃ u, lx[j]? = some u := ⟨_, List.getElem?_eq_getElem (by rw [HX.out.2.2.1]; exact hjp)⟩
                  obtain ⟨v, hv⟩ : ∃ v, ly[j]? = some v := ⟨_, List.getElem?_eq_getElem (by rw [HX.out.2.2.2]; exact hjp)⟩
                  obtain ⟨b1, o1, rfl, e0⟩ := HI.out.1.2 j u hu
                  obtain ⟨b2, o2, rfl, e1⟩ := HI.out.2.2 j v hv
                  have HU := Lib.hid (And.intro hu hv); clear hu hv
                  by_cases huv : u = v
                  · have k4 : (u != v) = false := by simpa using huv
                    subst huv
                    go_wp2
                    go_quiet (fail)
                    go_wp2
                    go_roundg (p - (j + 1))
                    case measure => rw [HGJ.out.1]; omega
                    case rel => exact ⟨j + 1, rfl, rfl, by omega, agree_step HGJ.out.2 (by rw [HU.out.1, HU.out.2]), _, rfl⟩
                  · have k4 : (u != v) = true := by simpa using huv
                    have HR : Hid (decide (l = m) = false) := Lib.hid (decide_eq_false (list_ne HX.out.1 HX.out.2.1 (by intro e; injection e with _ e; injection e with e _; exact list_ne HU.out.1 HU.out.2 huv e)))
                    clear huv
                    go_wp2
                    go_quiet (fail)
                    go_wp2
                    go_ret
                    exact ⟨by rw [HR.out]; rfl, _, World.drewN_drewN _ _ _⟩
                · have hje : j = p := by omega
                  subst hje
                  have hjB : decide (j < j) = false := by simp
                  have HE : Hid (l[i]? = m[i]?) := Lib.hid (by rw [HX.out.1, HX.out.2.1, list_eq HX.out.2.2.1 HX.out.2.2.2 HGJ.out.2])
                  go_wp2
                  go_roundg (n - (i + 1))
                  case measure => rw [HGI.out.1]; omega
                  case rel => exact ⟨i + 1, rfl, rfl, by omega, agree_step HGI.out.2 HE.out, _, rfl⟩
            · have k3 : ((p : Int) != (p' : Int)) = true := by simp; omega
              have HR : Hid (decide (l = m) = false) := Lib.hid (decide_eq_false (list_ne HX.out.1 HX.out.2.1 (by intro e; injection e with _ e; injection e with e _; have := HX.out.2.2.1; have := HX.out.2.2.2; rw [e] at *; omega)))
              clear hpp
              go_wp2
              go_quiet (fail)
              go_wp2
              go_ret
              exact ⟨by rw [HR.out]; rfl, _, World.drewN_drewN _ _ _⟩
          · have k2 : (sx != sy) = true := by simpa using hs
            have HR : Hid (decide (l = m) = false) := Lib.hid (decide_eq_false (list_ne HX.out.1 HX.out.2.1 (by intro e; injection e with _ e; injection e with _ e; exact hs e)))
            clear hs
            go_wp2
            go_quiet (fail)
            go_wp2
            go_ret
            exact ⟨by rw [HR.out]; rfl, _, World.drewN_drewN _ _ _⟩
        · have k1 : (kx != ky) = true := by simpa using hk
          have HR : Hid (decide (l = m) = false) := Lib.hid (decide_eq_false (list_ne HX.out.1 HX.out.2.1 (by intro e; injection e with e _; exact hk e)))
          clear hk
          go_wp2
          go_quiet (fail)
          go_wp2
          go_ret
          exact ⟨by rw [HR.out]; rfl, _, World.drewN_drewN _ _ _⟩
      · have hie : i = n := by omega
        subst hie
        have hinB : decide (i < i) = false := by simp
        have HR : Hid (decide (l = m) = true) := Lib.hid (decide_eq_true (list_eq HN.out.1 HN.out.2 HGI.out.2))
        go_wp2
        go_ret
        exact ⟨by rw [HR.out]; rfl, _, rfl⟩
  · have hB : ((n : Int) != (n' : Int)) = true := by simp; omega
    have HR : Hid (decide (l = m) = false) := Lib.hid (decide_eq_false (by rintro rfl; omega))
    clear hn hn'
    go_enter Tryd.func15, Tryd.ntmps15
    go_wp2
    go_ret
    exact ⟨by rw [HR.out]; rfl, 0, rfl⟩
end Go.Proofs.YtgeidnfigncepaaDoor
