/- ModelUnrolls is proved: for every input, the law returns true and leaves its arguments as they were (unrolling the loop keeps the trace and the shortest representation); there are no further conditions. -/
import Derived.Test.YtbddpjofhddilaaSK
import Derived.Test.YtbddpjofhddilaaSPW
import Derived.Test.YtbddpjofhddilaaSG
namespace Go.Proofs.Ytbddpjofhddilaa
open Go.ChangeShapes Go.WideShapes Go.ChangeAt Go.WideMaps Go.WideElems Go.RowKit

set_option maxRecDepth 100000 in
theorem modelUnrolls_lifted (os : Os) (started : os.Started) (H : Type) (enc : TypeId × Value → H) :
    ReturnsInHanded {} Try.checked os 6 .any (Rows.modelUnrollsSpec.pre6 enc Try.prog Try.f6 [] false) (Rows.modelUnrollsSpec.post enc Try.prog Try.f6 false true false false) := by
  refine returnsInHanded_of_change (C := Try.checked) own started (by kernel_rfl) Try.func6
    (ChangeSpec.witness6 (enc := enc) (C := Try.checked) false ⟨#[], #[.agg #[.slice none 0 0, .int .i64 0, .slice none 0 0, .int .i64 0]], []⟩ 8 (by kernel_rfl) (by kernel_rfl) (by kernel_rfl) (by kernel_rfl)) ?_
  intro W base args ds gs before hval0 hW _ _
  have hval : ∀ (j : Nat) t v, Try.f6.params[j]? = some t → args[j]? = some v → Value.okWide Try.prog W .any base t v := hval0
  have hW' := hW
  obtain ⟨p, q, hA0, hV, rfl, _, _⟩ := hW
  have hA : DataW.TrodAll enc Try.prog W 0 (fun _ => true) true Try.f6.params.toList args.toList ds p := hA0
  rw [Try.params6] at hA hval
  have hpl : ∀ x ∈ p, x.block < W.heap.size := fun x hx => hW'.lt x (by simp [hx])
  have hA2 := hA
  obtain ⟨v0, d0, rfl, rfl, h0⟩ := trodAll_one hA
  obtain ⟨rfl, rfl⟩ := trodVars_none hV
  obtain ⟨us0, sa0, sc0, st0, L0, ta0, tc0, lp0, rfl, hu0, hT0, hm0⟩ := open_model (hval 0 33 v0 rfl rfl) h0
  refine (unrolls_calls head_says us0 sa0 sc0 st0 ta0 L0 tc0 lp0 W hu0 hT0).mono fun e W' ⟨he, hw⟩ => ?_
  subst he
  have hbl := below_of hw
  exact ⟨_, rfl, _, _, _, [], _, [], hW', trodAll_mk1 (shut_bool Try.underlying4 _), trodAll_below hbl (by decide +kernel) hA2 hpl, rfl, hbl.frame _, fun h => by cases h⟩

theorem modelUnrolls_holds : Rows.ModelUnrollsSaid :=
  OpenClaim.holds_of_wide 6 Try.f6 rfl rfl rfl rfl rfl rfl rfl ⟨rfl, rfl, rfl, rfl, rfl⟩ rfl rfl rfl rfl rfl (by kernel_rfl) Try.func6 (by kernel_rfl)
    (of_decide_eq_true (by kernel_rfl)) (by unfold Func.isWrapper; rw [if_neg (of_decide_eq_false (by kernel_rfl))]; exact ⟨rfl, rfl⟩)
    (fun os started H enc _ => modelUnrolls_lifted os started H enc)
end Go.Proofs.Ytbddpjofhddilaa
