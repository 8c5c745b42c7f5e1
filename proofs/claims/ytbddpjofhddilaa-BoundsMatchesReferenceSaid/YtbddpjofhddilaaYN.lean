/- BoundsMatchesReference is proved: for every input, the law returns true and leaves its arguments as they were (all functions answer as the reference does); there are no further conditions. -/
import Derived.Test.YtbddpjofhddilaaYW
import Derived.Test.YtbddpjofhddilaaYI
import Derived.Test.YtbddpjofhddilaaYM
namespace Go.Proofs.Ytbddpjofhddilaa
open Go.ChangeShapes Go.WideShapes Go.ChangeAt Go.WideMaps Go.WideElems Go.RowKit

set_option maxRecDepth 100000 in
theorem boundsMatchesReference_lifted (os : Os) (started : os.Started) (H : Type) (enc : TypeId × Value → H) :
    ReturnsInHanded {} Try.checked os 10 .any (Rows.boundsMatchesReferenceSpec.pre6 enc Try.prog Try.f10 [] false) (Rows.boundsMatchesReferenceSpec.post enc Try.prog Try.f10 false true false false) := by
  refine returnsInHanded_of_change (C := Try.checked) own started (by kernel_rfl) Try.func10
    (ChangeSpec.witness6 (enc := enc) (C := Try.checked) false ⟨#[], #[.agg #[.slice none 0 0, .slice none 0 0, .slice none 0 0, .slice none 0 0], .agg #[.slice none 0 0, .int .i64 0], .slice none 0 0, .slice none 0 0, .agg #[.slice none 0 0, .int .i64 0, .slice none 0 0, .int .i64 0]], []⟩ 8 (by kernel_rfl) (by kernel_rfl) (by kernel_rfl) (by kernel_rfl)) ?_
  intro W base args ds gs before hval0 hW _ _
  have hval : ∀ (j : Nat) t v, Try.f10.params[j]? = some t → args[j]? = some v → Value.okWide Try.prog W .any base t v := hval0
  have hW' := hW
  obtain ⟨p, q, hA0, hV, rfl, _, _⟩ := hW
  have hA : DataW.TrodAll enc Try.prog W 0 (fun _ => true) true Try.f10.params.toList args.toList ds p := hA0
  rw [Try.params10] at hA hval
  have hpl : ∀ x ∈ p, x.block < W.heap.size := fun x hx => hW'.lt x (by simp [hx])
  have hA2 := hA
  obtain ⟨v0, v1, v2, v3, v4, d0, d1, d2, d3, d4, p0, p1, p2, p3, p4, rfl, rfl, rfl, h0, h1, h2, h3, h4⟩ := trodAll_five9 hA
  obtain ⟨rfl, rfl⟩ := trodVars_none hV
  obtain ⟨s10, ns0, c10, F0, fa0, fc0, a30, n30, c30, a40, n40, c40, rfl, hF0, hFl0⟩ := open_spec9 (hval 0 27 v0 rfl rfl) h0
  obtain ⟨us1, sa1, sc1, st1, rfl, hu1, hul1⟩ := open_scope9 (hval 1 30 v1 rfl rfl) h1
  obtain ⟨nn2, x2, h2⟩ := open_slice1 Try.underlying57 (hval 2 57 v2 rfl rfl) h2
  obtain ⟨B2, ba2, bc2, rfl, hB2⟩ := bounds_open9 h2
  obtain ⟨nn3, x3, h3⟩ := open_slice1 Try.underlying57 (hval 3 57 v3 rfl rfl) h3
  obtain ⟨B3, ba3, bc3, rfl, hB3⟩ := bounds_open9 h3
  obtain ⟨mu4, ma4, mc4, ms4, L4, ta4, tc4, lp4, rfl, hmu4, hT4, hml4⟩ := open_model (hval 4 33 v4 rfl rfl) h4
  refine (matches9_calls head9_says s10 ns0 c10 F0 fa0 fc0 a30 n30 c30 a40 n40 c40 us1 sa1 sc1 st1 B2 ba2 bc2 B3 ba3 bc3 ma4 mc4 mu4.length ms4 L4 ta4 tc4 lp4 W hF0 hFl0 hu1 hul1 hB2 hB3 hT4).mono fun e W' ⟨he, hw⟩ => ?_
  subst he
  have hbl := below_of hw
  exact ⟨_, rfl, _, _, _, [], _, [], hW', trodAll_mk1 (shut_bool Try.underlying4 _), trodAll_below hbl (by decide +kernel) hA2 hpl, rfl, hbl.frame _, fun h => by cases h⟩

theorem boundsMatchesReference_holds : Rows.BoundsMatchesReferenceSaid :=
  OpenClaim.holds_of_wide 10 Try.f10 rfl rfl rfl rfl rfl rfl rfl ⟨rfl, rfl, rfl, rfl, rfl⟩ rfl rfl rfl rfl rfl (by kernel_rfl) Try.func10 (by kernel_rfl)
    (of_decide_eq_true (by kernel_rfl)) (by unfold Func.isWrapper; rw [if_neg (of_decide_eq_false (by kernel_rfl))]; exact ⟨rfl, rfl⟩)
    (fun os started H enc _ => boundsMatchesReference_lifted os started H enc)
end Go.Proofs.Ytbddpjofhddilaa
