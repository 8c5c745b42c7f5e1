/- BoundsStates is proved: for every input, the law returns true and leaves its arguments as they were (bounds hold the states they say); there are no further conditions. -/
import Derived.Test.YtbddpjofhddilaaN21
import Derived.Test.YtbddpjofhddilaaNWX
import Derived.Test.YtbddpjofhddilaaNWH
namespace Go.Proofs.Ytbddpjofhddilaa
open Go.ChangeShapes Go.WideShapes Go.ChangeAt Go.WideMaps Go.WideElems Go.RowKit

set_option maxRecDepth 100000 in
theorem boundsStates_lifted (os : Os) (started : os.Started) (H : Type) (enc : TypeId × Value → H) :
    ReturnsInHanded {} Try.checked os 14 .any (Rows.boundsStatesSpec.pre6 enc Try.prog Try.f14 [] false) (Rows.boundsStatesSpec.post enc Try.prog Try.f14 false true false false) := by
  refine returnsInHanded_of_change (C := Try.checked) own started (by kernel_rfl) Try.func14
    (ChangeSpec.witness6 (enc := enc) (C := Try.checked) false ⟨#[], #[.agg #[.slice none 0 0, .slice none 0 0, .slice none 0 0, .slice none 0 0], .agg #[.slice none 0 0, .int .i64 0], .slice none 0 0, .slice none 0 0, .slice none 0 0, .slice none 0 0], []⟩ 8 (by kernel_rfl) (by kernel_rfl) (by kernel_rfl) (by kernel_rfl)) ?_
  intro W base args ds gs before hval0 hW _ _
  have hval : ∀ (j : Nat) t v, Try.f14.params[j]? = some t → args[j]? = some v → Value.okWide Try.prog W .any base t v := hval0
  have hW' := hW
  obtain ⟨p, q, hA0, hV, rfl, _, _⟩ := hW
  have hA : DataW.TrodAll enc Try.prog W 0 (fun _ => true) true Try.f14.params.toList args.toList ds p := hA0
  rw [Try.params14] at hA hval
  have hpl : ∀ x ∈ p, x.block < W.heap.size := fun x hx => hW'.lt x (by simp [hx])
  have hA2 := hA
  obtain ⟨v0, v1, v2, v3, v4, v5, d0, d1, d2, d3, d4, d5, p0, p1, p2, p3, p4, p5, rfl, rfl, rfl, h0, h1, h2, h3, h4, h5⟩ := trodAll_six9 hA
  obtain ⟨rfl, rfl⟩ := trodVars_none hV
  obtain ⟨s10, ns0, c10, F0, fa0, fc0, a30, n30, c30, a40, n40, c40, rfl, hF0, hFl0⟩ := open_spec9 (hval 0 27 v0 rfl rfl) h0
  obtain ⟨us1, sa1, sc1, st1, rfl, hu1, hul1⟩ := open_scope9 (hval 1 30 v1 rfl rfl) h1
  obtain ⟨nn2, x2, h2⟩ := open_slice1 Try.underlying71 (hval 2 71 v2 rfl rfl) h2
  obtain ⟨raw2, ra2, rc2, rfl, hr2, hro2⟩ := raws_open h2
  obtain ⟨nn3, x3, h3⟩ := open_slice1 Try.underlying71 (hval 3 71 v3 rfl rfl) h3
  obtain ⟨raw3, ra3, rc3, rfl, hr3, hro3⟩ := raws_open h3
  obtain ⟨nn4, x4, h4⟩ := open_slice1 Try.underlying76 (hval 4 76 v4 rfl rfl) h4
  obtain ⟨bs4, ba4, bc4, rfl, hb4, hbl4⟩ := bools_open h4
  obtain ⟨nn5, x5, h5⟩ := open_slice1 Try.underlying76 (hval 5 76 v5 rfl rfl) h5
  obtain ⟨bs5, ba5, bc5, rfl, hb5, hbl5⟩ := bools_open h5
  refine (states_law_calls head9_says s10 ns0 c10 F0 fa0 fc0 a30 n30 c30 a40 n40 c40 us1 sa1 sc1 st1 raw2 ra2 rc2 raw3 ra3 rc3 bs4 ba4 bc4 bs5 ba5 bc5 W hF0 hFl0 hu1 hul1 hr2 hro2 hr3 hro3 hb4 hbl4 hb5 hbl5).mono fun e W' ⟨he, hw⟩ => ?_
  subst he
  have hbl := below_of hw
  exact ⟨_, rfl, _, _, _, [], _, [], hW', trodAll_mk1 (shut_bool Try.underlying4 _), trodAll_below hbl (by decide +kernel) hA2 hpl, rfl, hbl.frame _, fun h => by cases h⟩

theorem boundsStates_holds : Rows.BoundsStatesSaid :=
  OpenClaim.holds_of_wide 14 Try.f14 rfl rfl rfl rfl rfl rfl rfl ⟨rfl, rfl, rfl, rfl, rfl⟩ rfl rfl rfl rfl rfl (by kernel_rfl) Try.func14 (by kernel_rfl)
    (of_decide_eq_true (by kernel_rfl)) (by unfold Func.isWrapper; rw [if_neg (of_decide_eq_false (by kernel_rfl))]; exact ⟨rfl, rfl⟩)
    (fun os started H enc _ => boundsStates_lifted os started H enc)
end Go.Proofs.Ytbddpjofhddilaa
