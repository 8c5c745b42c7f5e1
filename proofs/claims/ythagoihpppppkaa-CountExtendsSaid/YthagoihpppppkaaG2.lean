/- Two gates compared. -/
import Derived.Test.YthagoihpppppkaaG1
import Derived.Laws.StructEq
namespace Go.Proofs.Ythagoihpppppkaa
open Go.RowKit

theorem eqI3 (d : Nat) (x y : Int) (w : World) : (Op.equalIn (d + 1) 3 (.int .i64 x) (.int .i64 y)).run Try.prog w = .ok (x == y) w := by
  rw [Op.equalIn]
  simp [go_sem]
set_option maxHeartbeats 4000000 in
theorem eqd47 (d : Nat) (x0 x1 x2 y0 y1 y2 : Int) (w : World) : (Op.equalIn (d + 1 + 1) 69 (.agg #[.int .i64 x0, .int .i64 x1, .int .i64 x2]) (.agg #[.int .i64 y0, .int .i64 y1, .int .i64 y2])).run Try.prog w = .ok (decide ((x0, x1, x2) = (y0, y1, y2))) w := by
  rw [Op.equalIn]
  simp only [Sem.run_bind, run_underlying Try.underlying69, Result.andThen_ok]
  have hst : Try.prog.stoodInHeld 69 = false := by kernel_rfl
  have hp : ∀ W : World, (program).run Try.prog W = .ok Try.prog W := fun W => rfl
  simp only [hp, Result.andThen_ok, hst, Bool.false_eq_true, if_false]
  have he := fun (x y : Int) (W : World) => eqI3 d x y W
  by_cases h0 : x0 = y0
  · by_cases h1 : x1 = y1
    · simp [part, go_sem, h0, h1, he]
      by_cases h2 : x2 = y2 <;> simp [h2]
    · simp [part, go_sem, h0, h1, he]
  · simp [part, go_sem, h0, he]
theorem eq47 (g h : Gt) (w : World) : (Op.equalIn 10000 69 (gv g) (gv h)).run Try.prog w = .ok (decide (g = h)) w := eqd47 9998 g.1 g.2.1 g.2.2 h.1 h.2.1 h.2.2 w
end Go.Proofs.Ythagoihpppppkaa
