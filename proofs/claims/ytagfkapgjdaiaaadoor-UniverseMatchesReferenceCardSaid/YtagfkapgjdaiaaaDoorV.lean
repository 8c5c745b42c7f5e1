/- The examples that each law begins with, whole. -/
import Derived.Test.YtagfkapgjdaiaaaDoorN
import Derived.Test.YtagfkapgjdaiaaaDoorU
namespace Go.Proofs.YtagfkapgjdaiaaaDoor
open Go.RowKit

theorem full_says : FullSays := fun w a ta c tc h ht => by
  refine (full_calls [2, 3] a c 1 [1, 0] ta tc w h (by decide) (by decide) ht (by decide)).mono ?_
  rintro e w' ⟨ra, rc, rfl, hi, hg⟩
  rw [show fullL [2, 3] [1, 0] = [10, 11, 15, 16, 20, 21] by decide] at hi ⊢
  exact ⟨ra, rc, rfl, hi, hg⟩
theorem head_says : HeadSays := fun w => head_calls full_says w
end Go.Proofs.YtagfkapgjdaiaaaDoor
