/- CircuitMatchesReference is proved: for every input, the law returns true and leaves its arguments as they were (all functions answer as the reference does); there are no further conditions. -/
import Derived.Test.YtllljcbdinckgaaC2
import Derived.Test.YtllljcbdinckgaaL3
namespace Go.Proofs.Ytllljcbdinckgaa
open Go.ChangeShapes Go.WideShapes Go.ChangeAt Go.WideMaps Go.WideElems Go.RowKit

set_option maxRecDepth 100000 in
theorem circuitMatchesReference_lifted (os : Os) (started : os.Started) (H : Type) (enc : TypeId × Value → H) :
    ReturnsInHanded {} Try.checked os 3 .any (Rows.circuitMatchesReferenceSpec.pre6 enc Try.prog Try.f3 [] false) (Rows.circuitMatchesReferenceSpec.post enc Try.prog Try.f3 false true false false) := by
  refine returnsInHanded_of_change (C := Try.checked) own started (by kernel_rfl) Try.func3
    (ChangeSpec.witness6 (enc := enc) (C := Try.checked) false ⟨#[], #[.slice none 0 0, .agg #[.slice none 0 0], .int .i64 0, .int .i64 0, .int .i64 0, .slice none 0 0], []⟩ 8 (by kernel_rfl) (by kernel_rfl) (by kernel_rfl) (by kernel_rfl)) ?_
  intro W base args ds gs before hval0 hW _ _
  have hval : ∀ (j : Nat) t v, Try.f3.params[j]? = some t → args[j]? = some v → Value.okWide Try.prog W .any base t v := hval0
  have hW' := hW
  obtain ⟨p, q, hA0, hV, rfl, _, _⟩ := hW
  have hA : DataW.TrodAll enc Try.prog W 0 (fun _ => true) true Try.f3.params.toList args.toList ds p := hA0
  rw [Try.params3] at hA hval
  have hpl : ∀ x ∈ p, x.block < W.heap.size := fun x hx => hW'.lt x (by simp [hx])
  have hA2 := hA
  obtain ⟨v0, v1, v2, v3, v4, v5, d0, d1, d2, d3, d4, d5, p0, p1, p2, p3, p4, p5, rfl, rfl, rfl, h0, h1, h2, h3, h4, h5⟩ := trodAll_six13 hA
  obtain ⟨rfl, rfl⟩ := trodVars_none hV
  obtain ⟨l0, sa0, sc0, rfl, hs0, ho0, hm0⟩ := open_stps (hval 0 22 v0 rfl rfl) h0
  obtain ⟨g1, ga1, gc1, rfl, hg1, hw1, hn1⟩ := open_circ (hval 1 25 v1 rfl rfl) h1
  obtain ⟨x2, rfl, wx2⟩ := open_i64 (hval 2 3 v2 rfl rfl) h2
  obtain ⟨x3, rfl, wx3⟩ := open_i64 (hval 3 3 v3 rfl rfl) h3
  obtain ⟨x4, rfl, wx4⟩ := open_i64 (hval 4 3 v4 rfl rfl) h4
  obtain ⟨b5, ba5, bc5, rfl, hb5, hn5⟩ := open_bools (hval 5 26 v5 rfl rfl) h5
  refine (matches_calls l0 sa0 sc0 g1 ga1 gc1 x2 x3 x4 b5 ba5 bc5 W hs0 ho0 hm0 hg1 hw1 hn1 wx2 wx3 wx4 hb5 hn5).mono fun e W' ⟨he, hw⟩ => ?_
  subst he
  have hbl := below_of hw
  exact ⟨_, rfl, _, _, _, [], _, [], hW', trodAll_mk1 (shut_bool Try.underlying4 _), trodAll_below hbl (by decide +kernel) hA2 hpl, rfl, hbl.frame _, fun h => by cases h⟩

theorem circuitMatchesReference_holds : Rows.CircuitMatchesReferenceSaid :=
  OpenClaim.holds_of_wide 3 Try.f3 rfl rfl rfl rfl rfl rfl rfl ⟨rfl, rfl, rfl, rfl, rfl⟩ rfl rfl rfl rfl rfl (by kernel_rfl) Try.func3 (by kernel_rfl)
    (of_decide_eq_true (by kernel_rfl)) (by unfold Func.isWrapper; rw [if_neg (of_decide_eq_false (by kernel_rfl))]; exact ⟨rfl, rfl⟩)
    (fun os started H enc _ => circuitMatchesReference_lifted os started H enc)
end Go.Proofs.Ytllljcbdinckgaa
