/- The reference's Valid, Same, Comparators. -/
import Derived.Test.YthagoihpppppkaaQ5
namespace Go.Proofs.Ythagoihpppppkaa
open Go.RowKit Go.Maps

def okB (gs : List Gt) (u : List Int) : Bool := u.all fun r => decide (0 ≤ r ∧ r < 2 * (gs.length : Int))
theorem okB_iff {gs : List Gt} {u : List Int} : okB gs u = true ↔ ∀ r ∈ u, Ok gs r := by
  unfold okB Ok
  rw [List.all_eq_true]
  exact ⟨fun h r hr => of_decide_eq_true (h r hr), fun h r hr => decide_eq_true (h r hr)⟩
theorem okB_bad {gs : List Gt} {u : List Int} {k : Nat} {r : Int} (hr : u[k]? = some r) (hb : ¬ Ok gs r) : okB gs u = false := by
  cases h : okB gs u with
  | false => rfl
  | true => exact absurd (okB_iff.1 h r (List.mem_of_getElem? hr)) hb
theorem okB_good {gs : List Gt} {u : List Int} {n : Nat} (hn : u.length = n) (h : ∀ (j : Nat) (r : Int), j < n → u[j]? = some r → Ok gs r) : okB gs u = true := okB_iff.2 fun r hr => by
  obtain ⟨j, hj⟩ := List.mem_iff_getElem?.1 hr
  exact h j r (by rw [← hn]; exact (List.getElem?_eq_some_iff.1 hj).1) hj

set_option maxRecDepth 100000 in
set_option maxHeartbeats 4000000 in
theorem validR_calls (gs : List Gt) (u : List Int) (a : Option Addr) (c : Nat) (b : Option Addr) (d : Nat) (w : World) (_h : GatesW w a c gs) (hu : IntsW w b d u) (hl : gs.length ≤ 1000) (hlu : u.length ≤ 1000) :
    Calls Try.prog 24 #[.agg #[.slice a gs.length c], .slice b u.length d] w fun e w' => e = .returned (.bool (okB gs u)) ∧ w.grownBy w' none := by
  obtain ⟨n, hn⟩ : ∃ n, u.length = n := ⟨_, rfl⟩
  obtain ⟨ng, hng⟩ : ∃ n, gs.length = n := ⟨_, rfl⟩
  have HN := Lib.hid (And.intro hn hng)
  rw [hng] at hl ⊢
  rw [hn] at hlu ⊢
  have hg1 := World.grownBy_alloc w (.cells #[.slice a ng c] 32) none
  have hc1 := one_cell w (.slice a ng c) 32
  obtain ⟨W1, hW1⟩ : ∃ z, w.alloc (.cells #[.slice a ng c] 32) = z := ⟨_, rfl⟩
  rw [hW1] at hg1 hc1
  obtain ⟨bC, hbC⟩ : ∃ z, w.heap.size = z := ⟨_, rfl⟩
  rw [hbC] at hc1
  have HQ := Lib.hid hc1.2.1
  have HU := Lib.hid (hu.grown hg1)
  have HG := Lib.hid hg1
  have w2 : IntKind.i64.wrap (2 * (ng : Int)) = 2 * (ng : Int) := IntWalk.i64_in _ (by omega)
  clear _h hu hn hng hg1 hc1
  go_enter Try.func24, Try.ntmps24
  go_wp2_with fail
  clear hW1 hbC
  go_loopg [5] n (fun gk s5 wr => ∃ (k : Nat), s5 = .int .i64 (k : Int) ∧ gk = n - k ∧ k ≤ n ∧ (∀ (j : Nat) (r : Int), j < k → u[j]? = some r → Ok gs r) ∧ W1.grownBy wr none)
  case atStart => exact ⟨0, rfl, rfl, Nat.zero_le _, fun j r hj => by omega, grown_refl _ _⟩
  case round =>
    obtain ⟨k, rfl, hgk, hk, hm', hgr⟩ := hrel
    have HI := Lib.hid hgk; clear hgk
    have HM := Lib.hid hm'; clear hm'
    have HGR := Lib.hid hgr; clear hgr
    have q1 := HGR.out.cell HQ.out (by simp)
    by_cases hkn : k < n
    · have f1 : decide (k < n) = true := decide_eq_true hkn
      have f2 : decide ((k : Int) < (n : Int)) = true := decide_eq_true (by omega)
      have hk1 : IntKind.i64.wrap ((k : Int) + 1) = ((k + 1 : Nat) : Int) := by rw [IntWalk.i64_in _ (by omega)]; omega
      have hj0 : (0 : Int) ≤ (k : Int) := by omega
      have hj1 : (k : Int) < (n : Int) := by omega
      obtain ⟨r, hr⟩ : ∃ r, u[k]? = some r := ⟨_, List.getElem?_eq_getElem (by rw [HN.out.1]; exact hkn)⟩
      obtain ⟨ba, oa, rfl, x0⟩ := (HU.out.grown HGR.out).at hr
      have HR0 := Lib.hid hr
      clear hr
      by_cases h0 : r < 0
      · have g0 : decide (r < 0) = true := decide_eq_true h0
        have HBD := Lib.hid (okB_bad (gs := gs) HR0.out (by unfold Ok; omega))
        clear h0
        go_wp2_with fail
        go_quiet (fail)
        go_wp2_with fail
        go_ret
        exact ⟨by rw [HBD.out]; rfl, World.grownBy.trans HG.out (World.grownBy.trans HGR.out (grown_drewN _ _ _))⟩
      · have g0 : decide (r < 0) = false := decide_eq_false h0
        by_cases h1 : 2 * (ng : Int) ≤ r
        · have g1 : decide (2 * (ng : Int) ≤ r) = true := decide_eq_true h1
          have HBD := Lib.hid (okB_bad (gs := gs) HR0.out (by unfold Ok; have := HN.out.2; omega))
          clear h0 h1
          go_wp2_with fail
          go_quiet (fail)
          go_wp2_with fail
          go_ret
          exact ⟨by rw [HBD.out]; rfl, World.grownBy.trans HG.out (World.grownBy.trans HGR.out (grown_drewN _ _ _))⟩
        · have g1 : decide (2 * (ng : Int) ≤ r) = false := decide_eq_false h1
          have HOK := Lib.hid (show Ok gs r from by unfold Ok; have := HN.out.2; omega)
          clear h0 h1
          go_wp2_with fail
          go_quiet (fail)
          go_wp2_with fail
          go_roundg (n - (k + 1))
          case measure => rw [HI.out]; omega
          case rel => exact ⟨k + 1, rfl, rfl, by omega, fun j r' hj hr' => by
            rcases Nat.lt_or_ge j k with h1 | h1
            · exact HM.out j r' h1 hr'
            · have e : j = k := by omega
              subst e
              rw [HR0.out] at hr'
              cases hr'
              exact HOK.out, World.grownBy.trans HGR.out (grown_drewN _ _ _)⟩
    · have f1 : decide (k < n) = false := decide_eq_false hkn
      have f2 : decide ((k : Int) < (n : Int)) = false := decide_eq_false (by omega)
      have hnk : k = n := by omega
      have HR := Lib.hid (show okB gs u = true from okB_good HN.out.1 (by rw [← hnk]; exact HM.out))
      clear hkn hnk
      go_wp2_with fail
      go_ret
      exact ⟨by rw [HR.out]; rfl, World.grownBy.trans HG.out HGR.out⟩

set_option maxRecDepth 100000 in
set_option maxHeartbeats 4000000 in
theorem sameI_calls (u v : List Int) (b : Option Addr) (d : Nat) (b2 : Option Addr) (d2 : Nat) (w : World) (hu : IntsW w b d u) (hv : IntsW w b2 d2 v) (hlu : u.length ≤ 1000) (_hlv : v.length ≤ 1000) :
    Calls Try.prog 27 #[.slice b u.length d, .slice b2 v.length d2] w fun e w' => e = .returned (.bool (decide (u = v))) ∧ w.grownBy w' none := by
  obtain ⟨n, hn⟩ : ∃ n, u.length = n := ⟨_, rfl⟩
  obtain ⟨m, hm⟩ : ∃ n, v.length = n := ⟨_, rfl⟩
  have HN := Lib.hid (And.intro hn hm)
  rw [hn] at hlu ⊢
  rw [hm] at _hlv ⊢
  have HU := Lib.hid hu
  have HV := Lib.hid hv
  clear hu hv hn hm
  by_cases hnm : n = m
  · have fe : (((n : Nat) : Int) == ((m : Nat) : Int)) = true := by simp [hnm]
    have fe2 : (n == m) = true := by simp [hnm]
    have HNM := Lib.hid hnm; clear hnm
    go_enter Try.func27, Try.ntmps27
    go_wp2_with fail
    go_loopg [5] n (fun gk s5 wr => ∃ (k : Nat), s5 = .int .i64 (k : Int) ∧ gk = n - k ∧ k ≤ n ∧ (∀ (j : Nat), j < k → u[j]? = v[j]?) ∧ w.grownBy wr none)
    case atStart => exact ⟨0, rfl, rfl, Nat.zero_le _, fun j hj => by omega, grown_refl _ _⟩
    case round =>
      obtain ⟨k, rfl, hgk, hk, hm', hgr⟩ := hrel
      have HI := Lib.hid hgk; clear hgk
      have HM := Lib.hid hm'; clear hm'
      have HGR := Lib.hid hgr; clear hgr
      by_cases hkn : k < n
      · have f1 : decide (k < n) = true := decide_eq_true hkn
        have f2 : decide ((k : Int) < (n : Int)) = true := decide_eq_true (by omega)
        have hk1 : IntKind.i64.wrap ((k : Int) + 1) = ((k + 1 : Nat) : Int) := by rw [IntWalk.i64_in _ (by omega)]; omega
        have hj0 : (0 : Int) ≤ (k : Int) := by omega
        have hj1 : (k : Int) < (n : Int) := by omega
        have hj2 : (k : Int) < (m : Int) := by have := HNM.out; omega
        obtain ⟨r, hr⟩ : ∃ r, u[k]? = some r := ⟨_, List.getElem?_eq_getElem (by rw [HN.out.1]; exact hkn)⟩
        obtain ⟨s, hs⟩ : ∃ r, v[k]? = some r := ⟨_, List.getElem?_eq_getElem (by rw [HN.out.2, ← HNM.out]; exact hkn)⟩
        obtain ⟨ba, oa, rfl, x0⟩ := (HU.out.grown HGR.out).at hr
        obtain ⟨bb, ob, rfl, y0⟩ := (HV.out.grown HGR.out).at hs
        have HR0 := Lib.hid (And.intro hr hs)
        clear hr hs
        by_cases hrs : r = s
        · have e1 := beqT hrs
          have HST := Lib.hid (show ∀ (j : Nat), j < k + 1 → u[j]? = v[j]? from fun j hj => by
            rcases Nat.lt_or_ge j k with h1 | h1
            · exact HM.out j h1
            · have e : j = k := by omega
              rw [e, HR0.out.1, HR0.out.2, hrs])
          clear hrs
          go_wp2_with fail
          go_quiet (fail)
          go_wp2_with fail
          go_roundg (n - (k + 1))
          case measure => rw [HI.out]; omega
          case rel => exact ⟨k + 1, rfl, rfl, by omega, HST.out, World.grownBy.trans HGR.out (grown_drewN _ _ _)⟩
        · have e1 := beqF hrs
          have HBD := Lib.hid (show decide (u = v) = false from decide_eq_false fun e => by
            rw [e, HR0.out.2] at HR0
            exact hrs (Option.some.inj HR0.out.1).symm)
          clear hrs
          go_wp2_with fail
          go_quiet (fail)
          go_wp2_with fail
          go_ret
          exact ⟨by rw [HBD.out]; rfl, World.grownBy.trans HGR.out (grown_drewN _ _ _)⟩
      · have f1 : decide (k < n) = false := decide_eq_false hkn
        have f2 : decide ((k : Int) < (n : Int)) = false := decide_eq_false (by omega)
        have HR := Lib.hid (show decide (u = v) = true from decide_eq_true (ext_upto (by rw [HN.out.1, HN.out.2, HNM.out]) (fun j hj => HM.out j (by have := HN.out.1; omega))))
        clear hkn
        go_wp2_with fail
        go_ret
        exact ⟨by rw [HR.out]; rfl, HGR.out⟩
  · have fe : (((n : Nat) : Int) == ((m : Nat) : Int)) = false := by simp; omega
    have fe2 : (n == m) = false := by simp [hnm]
    have HBD := Lib.hid (show decide (u = v) = false from decide_eq_false fun e => hnm (by rw [← HN.out.1, ← HN.out.2, e]))
    clear hnm
    go_enter Try.func27, Try.ntmps27
    go_wp2_with fail
    go_ret
    exact ⟨by rw [HBD.out]; rfl, grown_refl _ _⟩
end Go.Proofs.Ythagoihpppppkaa
