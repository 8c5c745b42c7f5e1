/- CountExtends is proved: for every input, the law returns true and leaves its arguments as they were (every function keeps the gates, a repeated call appends none, and constants stay constants); there are no further conditions. -/
import Derived.Test.YthagoihpppppkaaC2
import Derived.Test.YthagoihpppppkaaL4
namespace Go.Proofs.Ythagoihpppppkaa
open Go.ChangeShapes Go.WideShapes Go.ChangeAt Go.WideMaps Go.WideElems Go.RowKit

set_option maxRecDepth 100000 in
theorem countExtends_lifted (os : Os) (started : os.Started) (H : Type) (enc : TypeId × Value → H) :
    ReturnsInHanded {} Try.checked os 4 .any (Rows.countExtendsSpec.pre6 enc Try.prog Try.f4 [] false) (Rows.countExtendsSpec.post enc Try.prog Try.f4 false true false false) := by
  refine returnsInHanded_of_change (C := Try.checked) own started (by kernel_rfl) Try.func4
    (ChangeSpec.witness6 (enc := enc) (C := Try.checked) false ⟨#[], #[.agg #[.slice none 0 0, .slice none 0 0, .slice none 0 0, .slice none 0 0, .int .i8 0], .int .i8 0], []⟩ 8 (by kernel_rfl) (by kernel_rfl) (by kernel_rfl) (by kernel_rfl)) ?_
  intro W base args ds gs before hval0 hW _ _
  have hval : ∀ (j : Nat) t v, Try.f4.params[j]? = some t → args[j]? = some v → Value.okWide Try.prog W .any base t v := hval0
  have hW' := hW
  obtain ⟨p, q, hA0, hV, rfl, _, _⟩ := hW
  have hA : DataW.TrodAll enc Try.prog W 0 (fun _ => true) true Try.f4.params.toList args.toList ds p := hA0
  rw [Try.params4] at hA hval
  have hpl : ∀ x ∈ p, x.block < W.heap.size := fun x hx => hW'.lt x (by simp [hx])
  have hA2 := hA
  obtain ⟨v0, v1, d0, d1, p0, p1, rfl, rfl, rfl, h0, h1⟩ := trodAll_two hA
  obtain ⟨rfl, rfl⟩ := trodVars_none hV
  obtain ⟨l0, A0, B0, b0, y0, sa0, sc0, aa0, ac0, ba0, bc0, va0, vc0, rfl, hr0⟩ := open_raw (hval 0 27 v0 rfl rfl) h0
  obtain ⟨z1, rfl, hz1⟩ := open_i8 (hval 1 25 v1 rfl rfl) h1
  refine (extend_calls l0 A0 B0 b0 y0 sa0 sc0 aa0 ac0 ba0 bc0 va0 vc0 z1 W hr0 hz1).mono fun e W' ⟨he, hw⟩ => ?_
  subst he
  have hbl := below_of hw
  exact ⟨_, rfl, _, _, _, [], _, [], hW', trodAll_mk1 (shut_bool Try.underlying4 _), trodAll_below hbl (by decide +kernel) hA2 hpl, rfl, hbl.frame _, fun h => by cases h⟩

theorem countExtends_holds : Rows.CountExtendsSaid :=
  OpenClaim.holds_of_wide 4 Try.f4 rfl rfl rfl rfl rfl rfl rfl ⟨rfl, rfl, rfl, rfl, rfl⟩ rfl rfl rfl rfl rfl (by kernel_rfl) Try.func4 (by kernel_rfl)
    (of_decide_eq_true (by kernel_rfl)) (by unfold Func.isWrapper; rw [if_neg (of_decide_eq_false (by kernel_rfl))]; exact ⟨rfl, rfl⟩)
    (fun os started H enc _ => countExtends_lifted os started H enc)
end Go.Proofs.Ythagoihpppppkaa
