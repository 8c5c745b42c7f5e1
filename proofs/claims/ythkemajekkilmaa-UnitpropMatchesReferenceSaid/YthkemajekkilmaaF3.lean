/- UnitpropMatchesReference is proved: for every input, the law returns true and leaves its arguments as they were (Propagate, Reasons, Levels and Implies answer as the reference does); there are no further conditions. -/
import Derived.Test.YthkemajekkilmaaGA10
import Derived.Test.YthkemajekkilmaaE3
namespace Go.Proofs.Ythkemajekkilmaa
open Go.ChangeShapes Go.WideShapes Go.ChangeAt Go.WideMaps Go.WideElems Go.RowKit

set_option maxRecDepth 100000 in
theorem unitpropMatchesReference_lifted (os : Os) (started : os.Started) (H : Type) (enc : TypeId × Value → H) :
    ReturnsInHanded {} Try.checked os 3 .any (Rows.unitpropMatchesReferenceSpec.pre6 enc Try.prog Try.f3 [] false) (Rows.unitpropMatchesReferenceSpec.post enc Try.prog Try.f3 false true false false) := by
  refine returnsInHanded_of_change (C := Try.checked) own started (by kernel_rfl) Try.func3
    (ChangeSpec.witness6 (enc := enc) (C := Try.checked) false ⟨#[], #[.agg #[.int .i64 0, .slice none 0 0], .slice none 0 0, .slice none 0 0], []⟩ 8 (by kernel_rfl) (by kernel_rfl) (by kernel_rfl) (by kernel_rfl)) ?_
  intro W base args ds gs before hval0 hW _ _
  have hval : ∀ (j : Nat) t v, Try.f3.params[j]? = some t → args[j]? = some v → Value.okWide Try.prog W .any base t v := hval0
  have hW' := hW
  obtain ⟨p, q, hA0, hV, rfl, _, _⟩ := hW
  have hA : DataW.TrodAll enc Try.prog W 0 (fun _ => true) true Try.f3.params.toList args.toList ds p := hA0
  rw [Try.params3] at hA hval
  have hpl : ∀ x ∈ p, x.block < W.heap.size := fun x hx => hW'.lt x (by simp [hx])
  have hA2 := hA
  obtain ⟨v0, v1, v2, d0, d1, d2, p0, p1, p2, rfl, rfl, rfl, h0, h1, h2⟩ := trodAll_three hA
  obtain ⟨rfl, rfl⟩ := trodVars_none hV
  obtain ⟨x0, g0, ga0, gc0, rfl, hg0, hx0, hw0⟩ := open_cnf (hval 0 24 v0 rfl rfl) h0
  obtain ⟨l1, la1, lc1, rfl, hl1, hn1⟩ := open_ints (hval 1 25 v1 rfl rfl) h1
  obtain ⟨l2, la2, lc2, rfl, hl2, hn2⟩ := open_ints (hval 2 25 v2 rfl rfl) h2
  refine (matches_calls x0 g0 ga0 gc0 l1 la1 lc1 l2 la2 lc2 W hg0 hl1 hl2).mono fun e W' ⟨he, hw⟩ => ?_
  subst he
  have hbl := below_of hw
  exact ⟨_, rfl, _, _, _, [], _, [], hW', trodAll_mk1 (shut_bool Try.underlying4 _), trodAll_below hbl (by decide +kernel) hA2 hpl, rfl, hbl.frame _, fun h => by cases h⟩

theorem unitpropMatchesReference_holds : Rows.UnitpropMatchesReferenceSaid :=
  OpenClaim.holds_of_wide 3 Try.f3 rfl rfl rfl rfl rfl rfl rfl ⟨rfl, rfl, rfl, rfl, rfl⟩ rfl rfl rfl rfl rfl (by kernel_rfl) Try.func3 (by kernel_rfl)
    (of_decide_eq_true (by kernel_rfl)) (by unfold Func.isWrapper; rw [if_neg (of_decide_eq_false (by kernel_rfl))]; exact ⟨rfl, rfl⟩)
    (fun os started H enc _ => unitpropMatchesReference_lifted os started H enc)
end Go.Proofs.Ythkemajekkilmaa
