/- UniverseNumbering returns true for every input: the tied card. -/
import Derived.Test.YtagfkapgjdaiaaaDoorM
import Derived.Test.YtagfkapgjdaiaaaDoorV
namespace Go.Proofs.YtagfkapgjdaiaaaDoor
open Go.ChangeShapes Go.WideShapes Go.ChangeAt Go.WideMaps Go.WideElems Go.RowKit

theorem numbering_card : Rows.UniverseNumberingCardSaid :=
  Claim7.holds_tied_plain_at .later [] [.data, .data, .data] true (true, "22433573aed3e55d4af1f8b3fd94c2b9787e547caf0dfe29cae16adbb9191b6a") false
    (numbering_holds head_says) (fun _ h => by cases h) (by kernel_rfl) (fun _ h => by cases h) universeNumbering_row_tie rfl ⟨rfl, rfl⟩ (by kernel_rfl) rfl
    (fun f fn hf hfn => by
      obtain rfl : f = 4 := Option.some.inj ((show Tryd.prog.funcNamed "armature/armaturelaw05.UniverseNumbering" = some 4 by kernel_rfl).symm.trans hf) |>.symm
      obtain rfl : fn = Tryd.f4 := (Option.some.inj (Tryd.func4.symm.trans hfn)).symm
      exact ⟨by kernel_rfl, fun j t ht => by
        rw [Tryd.params4] at ht
        have hm : t ∈ [31] := by simpa using Array.mem_of_getElem? ht
        have hall : ([31].all fun u => !Tryd.prog.wantsStandIn u) = true := by kernel_rfl
        exact (show Tryd.prog.wantsStandIn t = false by simpa using List.all_eq_true.1 hall t hm)⟩)
    (by kernel_rfl)
#print axioms numbering_card
end Go.Proofs.YtagfkapgjdaiaaaDoor
