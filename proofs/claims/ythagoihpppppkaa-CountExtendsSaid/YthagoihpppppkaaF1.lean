/- The reference: is a gate formed? -/
import Derived.Test.YthagoihpppppkaaR4
import Derived.Test.YthagoihpppppkaaG5
namespace Go.Proofs.Ythagoihpppppkaa
open Go.RowKit

set_option maxRecDepth 100000 in
set_option maxHeartbeats 4000000 in
theorem formed_calls (g : Gt) (i : Nat) (w : World) (hi : i ≤ 2000) (hw : WfG g) : Calls Try.prog 61 #[gv g, .int .i64 (i : Int)] w fun e w' => e = .returned (.bool (decide (formG g i))) ∧ w.grownBy w' none := by
  have hgc := gate_cells w g
  have hga := World.grownBy_alloc w (.cells #[.int .i64 g.1, .int .i64 g.2.1, .int .i64 g.2.2] 69) none
  obtain ⟨W1, hW1⟩ : ∃ W, w.alloc (.cells #[.int .i64 g.1, .int .i64 g.2.1, .int .i64 g.2.2] 69) = W := ⟨_, rfl⟩
  rw [hW1] at hgc hga
  have HG := Lib.hid hga
  have hk2 : IntKind.i64.wrap (2 * (i : Int)) = 2 * (i : Int) := IntWalk.i64_in _ (by omega)
  obtain ⟨y0, y1, y2⟩ := hgc
  have HW := Lib.hid hw
  clear hga hw
  by_cases c1 : g.1 = 1
  · have e1 := beqT c1
    by_cases c2 : 1 ≤ g.2.1
    · have e3 : decide (1 ≤ g.2.1) = true := decide_eq_true c2
      by_cases c3 : g.2.1 ≤ 20000
      · have e4 : decide (g.2.1 ≤ 20000) = true := decide_eq_true c3
        by_cases c4 : g.2.2 = 0
        · have e5 := beqT c4
          have HF := Lib.hid (show decide (formG g i) = true from decide_eq_true (.inl ⟨c1, c2, c3, c4⟩))
          clear c1 c2 c3 c4
          go_enter Try.func61, Try.ntmps61
          go_wp2_with fail
          go_ret
          exact ⟨by rw [HF.out]; rfl, HG.out⟩
        · have e5 := beqF c4
          have HF := Lib.hid (show decide (formG g i) = false from decide_eq_false (by unfold formG; omega))
          clear c1 c2 c3 c4
          go_enter Try.func61, Try.ntmps61
          go_wp2_with fail
          go_ret
          exact ⟨by rw [HF.out]; rfl, HG.out⟩
      · have e4 : decide (g.2.1 ≤ 20000) = false := decide_eq_false c3
        have HF := Lib.hid (show decide (formG g i) = false from decide_eq_false (by unfold formG; omega))
        clear c1 c2 c3
        go_enter Try.func61, Try.ntmps61
        go_wp2_with fail
        go_ret
        exact ⟨by rw [HF.out]; rfl, HG.out⟩
    · have e3 : decide (1 ≤ g.2.1) = false := decide_eq_false c2
      have HF := Lib.hid (show decide (formG g i) = false from decide_eq_false (by unfold formG; omega))
      clear c1 c2
      go_enter Try.func61, Try.ntmps61
      go_wp2_with fail
      go_ret
      exact ⟨by rw [HF.out]; rfl, HG.out⟩
  · have e1 := beqF c1
    by_cases d1 : g.1 = 2
    · have e2 := beqT d1
      by_cases d2 : 2 ≤ g.2.1
      · have e3 : decide (2 ≤ g.2.1) = true := decide_eq_true d2
        by_cases d3 : g.2.1 < g.2.2
        · have e4 : decide (g.2.1 < g.2.2) = true := decide_eq_true d3
          by_cases d4 : g.2.2 < 2 * (i : Int)
          · have e5 : decide (g.2.2 < 2 * (i : Int)) = true := decide_eq_true d4
            have hqa : Int.tdiv g.2.1 2 = g.2.1 / 2 := Int.tdiv_eq_ediv_of_nonneg (by omega)
            have hqb : Int.tdiv g.2.2 2 = g.2.2 / 2 := Int.tdiv_eq_ediv_of_nonneg (by omega)
            have hwa : IntKind.i64.wrap (g.2.1 / 2) = g.2.1 / 2 := IntWalk.i64_in _ (by omega)
            have hwb : IntKind.i64.wrap (g.2.2 / 2) = g.2.2 / 2 := IntWalk.i64_in _ (by omega)
            by_cases d5 : g.2.1 / 2 = g.2.2 / 2
            · have e6 : (g.2.1 / 2 != g.2.2 / 2) = false := by simp [d5]
              have HF := Lib.hid (show decide (formG g i) = false from decide_eq_false (by unfold formG; omega))
              clear c1 d1 d2 d3 d4 d5
              go_enter Try.func61, Try.ntmps61
              go_wp2_with fail
              go_ret
              exact ⟨by rw [HF.out]; rfl, HG.out⟩
            · have e6 : (g.2.1 / 2 != g.2.2 / 2) = true := by simp [d5]
              have HF := Lib.hid (show decide (formG g i) = true from decide_eq_true (.inr ⟨d1, d2, d3, d4, d5⟩))
              clear c1 d1 d2 d3 d4 d5
              go_enter Try.func61, Try.ntmps61
              go_wp2_with fail
              go_ret
              exact ⟨by rw [HF.out]; rfl, HG.out⟩
          · have e5 : decide (g.2.2 < 2 * (i : Int)) = false := decide_eq_false d4
            have HF := Lib.hid (show decide (formG g i) = false from decide_eq_false (by unfold formG; omega))
            clear c1 d1 d2 d3 d4
            go_enter Try.func61, Try.ntmps61
            go_wp2_with fail
            go_ret
            exact ⟨by rw [HF.out]; rfl, HG.out⟩
        · have e4 : decide (g.2.1 < g.2.2) = false := decide_eq_false d3
          have HF := Lib.hid (show decide (formG g i) = false from decide_eq_false (by unfold formG; omega))
          clear c1 d1 d2 d3
          go_enter Try.func61, Try.ntmps61
          go_wp2_with fail
          go_ret
          exact ⟨by rw [HF.out]; rfl, HG.out⟩
      · have e3 : decide (2 ≤ g.2.1) = false := decide_eq_false d2
        have HF := Lib.hid (show decide (formG g i) = false from decide_eq_false (by unfold formG; omega))
        clear c1 d1 d2
        go_enter Try.func61, Try.ntmps61
        go_wp2_with fail
        go_ret
        exact ⟨by rw [HF.out]; rfl, HG.out⟩
    · have e2 := beqF d1
      have HF := Lib.hid (show decide (formG g i) = false from decide_eq_false (by unfold formG; omega))
      clear c1 d1
      go_enter Try.func61, Try.ntmps61
      go_wp2_with fail
      go_ret
      exact ⟨by rw [HF.out]; rfl, HG.out⟩
end Go.Proofs.Ythagoihpppppkaa
