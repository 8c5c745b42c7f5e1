/- ModelValidShortest is proved: for every input, the law returns true and leaves its arguments as they were (the shortest representation of a valid model is valid, and each single state is); there are no further conditions. -/
import Derived.Test.YtbddpjofhddilaaSK
import Derived.Test.YtbddpjofhddilaaSR
import Derived.Test.YtbddpjofhddilaaSG
namespace Go.Proofs.Ytbddpjofhddilaa
open Go.ChangeShapes Go.WideShapes Go.ChangeAt Go.WideMaps Go.WideElems Go.RowKit

set_option maxRecDepth 100000 in
theorem modelValidShortest_lifted (os : Os) (started : os.Started) (H : Type) (enc : TypeId × Value → H) :
    ReturnsInHanded {} Try.checked os 8 .any (Rows.modelValidShortestSpec.pre6 enc Try.prog Try.f8 [] false) (Rows.modelValidShortestSpec.post enc Try.prog Try.f8 false true false false) := by
  refine returnsInHanded_of_change (C := Try.checked) own started (by kernel_rfl) Try.func8
    (ChangeSpec.witness6 (enc := enc) (C := Try.checked) false ⟨#[], #[.agg #[.slice none 0 0, .slice none 0 0, .slice none 0 0, .slice none 0 0], .agg #[.slice none 0 0, .int .i64 0, .slice none 0 0, .int .i64 0], .int .u8 0], []⟩ 8 (by kernel_rfl) (by kernel_rfl) (by kernel_rfl) (by kernel_rfl)) ?_
  intro W base args ds gs before hval0 hW _ _
  have hval : ∀ (j : Nat) t v, Try.f8.params[j]? = some t → args[j]? = some v → Value.okWide Try.prog W .any base t v := hval0
  have hW' := hW
  obtain ⟨p, q, hA0, hV, rfl, _, _⟩ := hW
  have hA : DataW.TrodAll enc Try.prog W 0 (fun _ => true) true Try.f8.params.toList args.toList ds p := hA0
  rw [Try.params8] at hA hval
  have hpl : ∀ x ∈ p, x.block < W.heap.size := fun x hx => hW'.lt x (by simp [hx])
  have hA2 := hA
  obtain ⟨v0, v1, v2, d0, d1, d2, p0, p1, p2, rfl, rfl, rfl, h0, h1, h2⟩ := trodAll_three hA
  obtain ⟨rfl, rfl⟩ := trodVars_none hV
  obtain ⟨s10, ns0, c10, F0, fa0, fc0, a30, n30, c30, a40, n40, c40, rfl, hF0⟩ := open_spec (hval 0 27 v0 rfl rfl) h0
  obtain ⟨us1, sa1, sc1, st1, L1, ta1, tc1, lp1, rfl, hu1, hT1, hm1⟩ := open_model (hval 1 33 v1 rfl rfl) h1
  obtain ⟨y2, rfl, hy2⟩ := open_u8 (hval 2 5 v2 rfl rfl) h2
  refine (validShortest_calls head_says s10 ns0 c10 F0 fa0 fc0 a30 n30 c30 a40 n40 c40 us1 sa1 sc1 st1 ta1 L1 tc1 lp1 y2 W hF0 hu1 hT1 hy2).mono fun e W' ⟨he, hw⟩ => ?_
  subst he
  have hbl := below_of hw
  exact ⟨_, rfl, _, _, _, [], _, [], hW', trodAll_mk1 (shut_bool Try.underlying4 _), trodAll_below hbl (by decide +kernel) hA2 hpl, rfl, hbl.frame _, fun h => by cases h⟩

theorem modelValidShortest_holds : Rows.ModelValidShortestSaid :=
  OpenClaim.holds_of_wide 8 Try.f8 rfl rfl rfl rfl rfl rfl rfl ⟨rfl, rfl, rfl, rfl, rfl⟩ rfl rfl rfl rfl rfl (by kernel_rfl) Try.func8 (by kernel_rfl)
    (of_decide_eq_true (by kernel_rfl)) (by unfold Func.isWrapper; rw [if_neg (of_decide_eq_false (by kernel_rfl))]; exact ⟨rfl, rfl⟩)
    (fun os started H enc _ => modelValidShortest_lifted os started H enc)
end Go.Proofs.Ytbddpjofhddilaa
