/- BoundsFree is proved: for every input, the law returns true and leaves its arguments as they were (the free numbers are as the document says); there are no further conditions. -/
import Derived.Test.YtbddpjofhddilaaN21
import Derived.Test.YtbddpjofhddilaaNWX
import Derived.Test.YtbddpjofhddilaaNWL
namespace Go.Proofs.Ytbddpjofhddilaa
open Go.ChangeShapes Go.WideShapes Go.ChangeAt Go.WideMaps Go.WideElems Go.RowKit

set_option maxRecDepth 100000 in
theorem boundsFree_lifted (os : Os) (started : os.Started) (H : Type) (enc : TypeId × Value → H) :
    ReturnsInHanded {} Try.checked os 13 .any (Rows.boundsFreeSpec.pre6 enc Try.prog Try.f13 [] false) (Rows.boundsFreeSpec.post enc Try.prog Try.f13 false true false false) := by
  refine returnsInHanded_of_change (C := Try.checked) own started (by kernel_rfl) Try.func13
    (ChangeSpec.witness6 (enc := enc) (C := Try.checked) false ⟨#[], #[.agg #[.slice none 0 0, .slice none 0 0, .slice none 0 0, .slice none 0 0], .agg #[.slice none 0 0, .int .i64 0], .slice none 0 0, .slice none 0 0, .slice none 0 0], []⟩ 8 (by kernel_rfl) (by kernel_rfl) (by kernel_rfl) (by kernel_rfl)) ?_
  intro W base args ds gs before hval0 hW _ _
  have hval : ∀ (j : Nat) t v, Try.f13.params[j]? = some t → args[j]? = some v → Value.okWide Try.prog W .any base t v := hval0
  have hW' := hW
  obtain ⟨p, q, hA0, hV, rfl, _, _⟩ := hW
  have hA : DataW.TrodAll enc Try.prog W 0 (fun _ => true) true Try.f13.params.toList args.toList ds p := hA0
  rw [Try.params13] at hA hval
  have hpl : ∀ x ∈ p, x.block < W.heap.size := fun x hx => hW'.lt x (by simp [hx])
  have hA2 := hA
  obtain ⟨v0, v1, v2, v3, v4, d0, d1, d2, d3, d4, p0, p1, p2, p3, p4, rfl, rfl, rfl, h0, h1, h2, h3, h4⟩ := trodAll_five9 hA
  obtain ⟨rfl, rfl⟩ := trodVars_none hV
  obtain ⟨s10, ns0, c10, F0, fa0, fc0, a30, n30, c30, a40, n40, c40, rfl, hF0, hFl0⟩ := open_spec9 (hval 0 27 v0 rfl rfl) h0
  obtain ⟨us1, sa1, sc1, st1, rfl, hu1, hul1⟩ := open_scope9 (hval 1 30 v1 rfl rfl) h1
  obtain ⟨nn2, x2, h2⟩ := open_slice1 Try.underlying71 (hval 2 71 v2 rfl rfl) h2
  obtain ⟨raw2, ra2, rc2, rfl, hr2, hro2⟩ := raws_open h2
  obtain ⟨nn3, x3, h3⟩ := open_slice1 Try.underlying76 (hval 3 76 v3 rfl rfl) h3
  obtain ⟨bs3, ba3, bc3, rfl, hb3, hbl3⟩ := bools_open h3
  obtain ⟨nn4, x4, h4⟩ := open_slice1 Try.underlying76 (hval 4 76 v4 rfl rfl) h4
  obtain ⟨bs4, ba4, bc4, rfl, hb4, hbl4⟩ := bools_open h4
  refine (free_law_calls head9_says s10 ns0 c10 F0 fa0 fc0 a30 n30 c30 a40 n40 c40 us1 sa1 sc1 st1 raw2 ra2 rc2 bs3 ba3 bc3 bs4 ba4 bc4 W hF0 hFl0 hu1 hul1 hr2 hro2 hb3 hbl3 hb4 hbl4).mono fun e W' ⟨he, hw⟩ => ?_
  subst he
  have hbl := below_of hw
  exact ⟨_, rfl, _, _, _, [], _, [], hW', trodAll_mk1 (shut_bool Try.underlying4 _), trodAll_below hbl (by decide +kernel) hA2 hpl, rfl, hbl.frame _, fun h => by cases h⟩

theorem boundsFree_holds : Rows.BoundsFreeSaid :=
  OpenClaim.holds_of_wide 13 Try.f13 rfl rfl rfl rfl rfl rfl rfl ⟨rfl, rfl, rfl, rfl, rfl⟩ rfl rfl rfl rfl rfl (by kernel_rfl) Try.func13 (by kernel_rfl)
    (of_decide_eq_true (by kernel_rfl)) (by unfold Func.isWrapper; rw [if_neg (of_decide_eq_false (by kernel_rfl))]; exact ⟨rfl, rfl⟩)
    (fun os started H enc _ => boundsFree_lifted os started H enc)
end Go.Proofs.Ytbddpjofhddilaa
