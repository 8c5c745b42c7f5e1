/- ClosureDenotes is proved: for every input, the law returns true and leaves its arguments as they were (what Squaring, Stepwise and Smaller denote is the relation's own closure); there are no further conditions. -/
import Derived.Test.YthdhmflodiincaaCB13
import Derived.Test.YthdhmflodiincaaCB25
namespace Go.Proofs.Ythdhmflodiincaa
open Go.ChangeShapes Go.WideShapes Go.ChangeAt Go.WideMaps Go.WideElems Go.RowKit

set_option maxRecDepth 100000 in
theorem closureDenotes_lifted (os : Os) (started : os.Started) (H : Type) (enc : TypeId × Value → H) :
    ReturnsInHanded {} Try.checked os 9 .any (Rows.closureDenotesSpec.pre6 enc Try.prog Try.f9 [] false) (Rows.closureDenotesSpec.post enc Try.prog Try.f9 false true false false) := by
  refine returnsInHanded_of_change (C := Try.checked) own started (by kernel_rfl) Try.func9
    (ChangeSpec.witness6 (enc := enc) (C := Try.checked) false ⟨#[], #[.int .u8 0, .slice none 0 0, .slice none 0 0, .int .u8 0], []⟩ 8 (by kernel_rfl) (by kernel_rfl) (by kernel_rfl) (by kernel_rfl)) ?_
  intro W base args ds gs before hval0 hW _ _
  have hval : ∀ (j : Nat) t v, Try.f9.params[j]? = some t → args[j]? = some v → Value.okWide Try.prog W .any base t v := hval0
  have hW' := hW
  obtain ⟨p, q, hA0, hV, rfl, _, _⟩ := hW
  have hA : DataW.TrodAll enc Try.prog W 0 (fun _ => true) true Try.f9.params.toList args.toList ds p := hA0
  rw [Try.params9] at hA hval
  have hpl : ∀ x ∈ p, x.block < W.heap.size := fun x hx => hW'.lt x (by simp [hx])
  have hA2 := hA
  obtain ⟨v0, v1, v2, v3, d0, d1, d2, d3, p0, p1, p2, p3, rfl, rfl, rfl, h0, h1, h2, h3⟩ := trodAll_four hA
  obtain ⟨rfl, rfl⟩ := trodVars_none hV
  obtain ⟨z0, rfl, hz0⟩ := open_u8 (hval 0 5 v0 rfl rfl) h0
  obtain ⟨l1, sa1, sc1, rfl, hs1, ho1, hm1⟩ := open_stps (hval 1 22 v1 rfl rfl) h1
  obtain ⟨l2, sa2, sc2, rfl, hs2, ho2, hm2⟩ := open_u8s (hval 2 23 v2 rfl rfl) h2
  obtain ⟨z3, rfl, hz3⟩ := open_u8 (hval 3 5 v3 rfl rfl) h3
  refine (denotes_calls z0 z3 l1 l2 _ _ sa1 sa2 sc1 sc2 W hz0 hz3 rfl rfl hs1 ho1 hs2 ho2 hm2).mono fun e W' ⟨he, hw⟩ => ?_
  subst he
  have hbl := below_of hw
  exact ⟨_, rfl, _, _, _, [], _, [], hW', trodAll_mk1 (shut_bool Try.underlying4 _), trodAll_below hbl (by decide +kernel) hA2 hpl, rfl, hbl.frame _, fun h => by cases h⟩

theorem closureDenotes_holds : Rows.ClosureDenotesSaid :=
  OpenClaim.holds_of_wide 9 Try.f9 rfl rfl rfl rfl rfl rfl rfl ⟨rfl, rfl, rfl, rfl, rfl⟩ rfl rfl rfl rfl rfl (by kernel_rfl) Try.func9 (by kernel_rfl)
    (of_decide_eq_true (by kernel_rfl)) (by unfold Func.isWrapper; rw [if_neg (of_decide_eq_false (by kernel_rfl))]; exact ⟨rfl, rfl⟩)
    (fun os started H enc _ => closureDenotes_lifted os started H enc)
end Go.Proofs.Ythdhmflodiincaa
