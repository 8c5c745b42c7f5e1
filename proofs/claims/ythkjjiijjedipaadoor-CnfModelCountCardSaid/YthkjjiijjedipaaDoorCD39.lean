/- Texts of the proof: M2b. -/
import Derived.Test.YthkjjiijjedipaaDoorCD06
namespace Go.Proofs.YthkjjiijjedipaaDoor
open Go.RowKit

set_option maxRecDepth 100000 in
set_option maxHeartbeats 2000000 in
theorem valid21_calls (v : Int) (l : List (List Int)) (a : Option Addr) (c : Nat) (w : World) (h : ClsW w a c l) (hl : l.length ≤ 60000) (hl2 : ∀ z ∈ l, z.length ≤ 100000) :
    Calls Tryd.prog 21 #[cnfV v a l.length c] w fun e w' => e = .returned (.bool (validK v l)) ∧ w.grownBy w' none := by
  obtain ⟨n, hn⟩ : ∃ n, l.length = n := ⟨_, rfl⟩
  have hg1 := World.grownBy_alloc w (.cells #[.int .i64 v, .slice a n c] 35) none
  have e1 := one_cells w (.int .i64 v) (.slice a n c) 35
  obtain ⟨W1, hW1⟩ : ∃ W, w.alloc (.cells #[.int .i64 v, .slice a n c] 35) = W := ⟨_, rfl⟩
  rw [hW1] at hg1 e1
  have q0 := e1.2.1
  have q1 := e1.2.2.1
  have HH := Lib.hid (h.grown hg1)
  have HG := Lib.hid hg1
  have HN := Lib.hid (And.intro hn hl2)
  rw [hn] at hl ⊢
  clear h hg1 e1 hl2 hn
  have d3 : decide (60000 < n) = false := decide_eq_false (by omega)
  have d4 : decide (60000 < (n : Int)) = false := decide_eq_false (by omega)
  by_cases hv1 : v < 0
  · have d1 : decide (v < 0) = true := decide_eq_true hv1
    have HR : Hid (validK v l = false) := Lib.hid (by unfold validK; rw [decide_eq_false (by omega : ¬ 0 ≤ v)]; rfl)
    go_enter Tryd.func21, Tryd.ntmps21
    go_wp2_with fail
    go_ret
    exact ⟨by rw [HR.out]; rfl, HG.out⟩
  have d1 : decide (v < 0) = false := decide_eq_false hv1
  by_cases hv2 : 20000 < v
  · have d2 : decide (20000 < v) = true := decide_eq_true hv2
    have HR : Hid (validK v l = false) := Lib.hid (by unfold validK; rw [decide_eq_false (by omega : ¬ v ≤ 20000), Bool.and_false]; rfl)
    go_enter Tryd.func21, Tryd.ntmps21
    go_wp2_with fail
    go_ret
    exact ⟨by rw [HR.out]; rfl, HG.out⟩
  have d2 : decide (20000 < v) = false := decide_eq_false hv2
  have d5 : IntKind.i64.wrap (-v) = -v := IntWalk.i64_in _ (by omega)
  have HV : Hid (validK v l = litsOk v l) := Lib.hid (by unfold validK; rw [decide_eq_true (by omega : 0 ≤ v), decide_eq_true (by omega : v ≤ 20000), HN.out.1, decide_eq_true hl]; simp)
  go_enter Tryd.func21, Tryd.ntmps21
  go_wp2_with fail
  go_loopg [3] n (fun g s wr => ∃ i : Nat, s = .int .i64 (i : Int) ∧ g = n - i ∧ i ≤ n ∧ (∀ z ∈ l.take i, z.all (litOk v) = true) ∧ W1 = wr)
  case atStart => exact ⟨0, rfl, rfl, Nat.zero_le _, fun z hz => (by simp at hz), rfl⟩
  case round =>
    obtain ⟨i, rfl, hgi, hi, hok, rfl⟩ := hrel
    have HGI := Lib.hid (And.intro hgi hok); clear hgi hok
    by_cases hin : i < n
    · have hinB : decide (i < n) = true := by simpa using hin
      have hinI : (i : Int) < (n : Int) := by omega
      obtain ⟨z, hz⟩ : ∃ z, l[i]? = some z := ⟨_, List.getElem?_eq_getElem (by rw [HN.out.1]; exact hin)⟩
      obtain ⟨b, o, a', c', rfl, c0, c1⟩ := HH.out.at hz
      have hp2 := HN.out.2 z (List.mem_of_getElem? hz)
      have HX := Lib.hid hz; clear hz
      obtain ⟨p, hp⟩ : ∃ p, z.length = p := ⟨_, rfl⟩
      rw [hp] at c0 hp2
      have HP := Lib.hid (And.intro hp c1); clear hp c1
      go_wp2_with fail
      go_loopg [4] p (fun g s wr => ∃ j : Nat, s = .int .i64 (j : Int) ∧ g = p - j ∧ j ≤ p ∧ (∀ x ∈ z.take j, litOk v x = true) ∧ W1 = wr)
      case atStart => exact ⟨0, rfl, rfl, Nat.zero_le _, fun x hx => (by simp at hx), rfl⟩
      case round =>
        obtain ⟨j, rfl, hgj, hj, hokj, rfl⟩ := hrel
        have HGJ := Lib.hid (And.intro hgj hokj); clear hgj hokj
        by_cases hjp : j < p
        · have hjB : decide (j < p) = true := by simpa using hjp
          have hjI : (j : Int) < (p : Int) := by omega
          obtain ⟨x, hx⟩ : ∃ x, z[j]? = some x := ⟨_, List.getElem?_eq_getElem (by rw [HP.out.1]; exact hjp)⟩
          obtain ⟨b2, o2, rfl, e0⟩ := HP.out.2.at hx
          have HU := Lib.hid hx; clear hx
          by_cases h0 : x = 0
          · have k1 : (x == 0) = true := by simpa using h0
            have HR : Hid (litsOk v l = false) := Lib.hid (all_not HX.out (all_not HU.out (by rw [h0]; exact litOk_zero v)))
            subst h0
            go_wp2_with fail
            go_ret
            exact ⟨by rw [HV.out, HR.out]; rfl, HG.out⟩
          · have k1 : (x == 0) = false := by simpa using h0
            by_cases h1 : v < x
            · have k2 : decide (v < x) = true := decide_eq_true h1
              have HR : Hid (litsOk v l = false) := Lib.hid (all_not HX.out (all_not HU.out (litOk_gt h1)))
              clear h0
              go_wp2_with fail
              go_ret
              exact ⟨by rw [HV.out, HR.out]; rfl, HG.out⟩
            · have k2 : decide (v < x) = false := decide_eq_false h1
              by_cases h2 : x < -v
              · have k3 : decide (x < -v) = true := decide_eq_true h2
                have HR : Hid (litsOk v l = false) := Lib.hid (all_not HX.out (all_not HU.out (litOk_lt h2)))
                clear h0
                go_wp2_with fail
                go_ret
                exact ⟨by rw [HV.out, HR.out]; rfl, HG.out⟩
              · have k3 : decide (x < -v) = false := decide_eq_false h2
                have HY := Lib.hid (litOk_yes h0 h1 h2)
                clear h0
                go_wp2_with fail
                go_roundg (p - (j + 1))
                case measure => rw [HGJ.out.1]; omega
                case rel => exact ⟨j + 1, rfl, rfl, by omega, all_step HGJ.out.2 HU.out HY.out, rfl⟩
        · have hje : j = p := by omega
          subst hje
          have hjB : decide (j < j) = false := by simp
          have HE := Lib.hid (all_end HP.out.1 HGJ.out.2)
          go_wp2_with fail
          go_roundg (n - (i + 1))
          case measure => rw [HGI.out.1]; omega
          case rel => exact ⟨i + 1, rfl, rfl, by omega, all_step HGI.out.2 HX.out HE.out, rfl⟩
    · have hie : i = n := by omega
      subst hie
      have hinB : decide (i < i) = false := by simp
      have HR : Hid (litsOk v l = true) := Lib.hid (all_end HN.out.1 HGI.out.2)
      go_wp2_with fail
      go_ret
      exact ⟨by rw [HV.out, HR.out]; rfl, HG.out⟩
end Go.Proofs.YthkjjiijjedipaaDoor
