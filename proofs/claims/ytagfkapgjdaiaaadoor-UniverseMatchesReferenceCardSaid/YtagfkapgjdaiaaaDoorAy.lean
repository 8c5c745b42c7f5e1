/- UniverseMatchesReference is proved: for every input, the law returns true and leaves its arguments as they were; the condition is that three package variables of Go's own packages math/bits and strconv hold what their initialisers lay, which the given tie ties to the text of the pruned copy of the program. -/
import Derived.Test.YtagfkapgjdaiaaaDoorZ
import Derived.Test.YtagfkapgjdaiaaaDoorAk
import Derived.Test.YtagfkapgjdaiaaaDoorAx
import Derived.Test.YtagfkapgjdaiaaaDoorAv
import Derived.Test.YtagfkapgjdaiaaaDoorV
namespace Go.Proofs.YtagfkapgjdaiaaaDoor
open Go.ChangeShapes Go.WideShapes Go.ChangeAt Go.WideMaps Go.WideElems Go.RowKit

set_option maxRecDepth 100000 in
theorem universeMatchesReference_lifted (os : Os) (started : os.Started) (H : Type) (enc : TypeId × Value → H) :
    ReturnsInHanded {} Tryd.checked os 3 .any (fun w args => (Rows.universeMatchesReferenceSpec.pre enc Tryd.prog Tryd.f3 [] false w args ∧ laidMetH Tryd.prog [("math/bits.deBruijn32tab", Rows.laid_math_bits_deBruijn32tab), ("math/bits.deBruijn64tab", Rows.laid_math_bits_deBruijn64tab), ("internal/strconv.uint64pow10", Rows.laid_internal_strconv_uint64pow10)] w) ∧ sizedMet enc Tryd.prog Tryd.f3 (OpenSpec.ofChange Rows.universeMatchesReferenceSpec) false w args)
      (Rows.universeMatchesReferenceSpec.post enc Tryd.prog Tryd.f3 false true false false) := by
  refine returnsInHanded_of_change_and (C := Tryd.checked) (X := fun w _ => laidMetH Tryd.prog [("math/bits.deBruijn32tab", Rows.laid_math_bits_deBruijn32tab), ("math/bits.deBruijn64tab", Rows.laid_math_bits_deBruijn64tab), ("internal/strconv.uint64pow10", Rows.laid_internal_strconv_uint64pow10)] w) (fun _ _ _ hh h => h.of_heap hh) own started (by kernel_rfl) Tryd.func3
    (ChangeSpec.witness_shaped (enc := enc) (C := Tryd.checked) (os := os) (X := fun w _ => laidMetH Tryd.prog [("math/bits.deBruijn32tab", Rows.laid_math_bits_deBruijn32tab), ("math/bits.deBruijn64tab", Rows.laid_math_bits_deBruijn64tab), ("internal/strconv.uint64pow10", Rows.laid_internal_strconv_uint64pow10)] w) false (World.doorLaid Tryd.prog 14 os) #[.agg #[.slice none 0 0, .slice none 0 0, .slice none 0 0, .slice none 0 0], .agg #[.slice none 0 0, .int .i64 0], .slice none 0 0, .int .i64 0, .slice none 0 0, .int .i64 0, .int .i64 0] 8 rfl (World.shaped_of_RefB (by kernel_rfl) (by kernel_rfl)) (by kernel_rfl) (by kernel_rfl) (by kernel_rfl) (door_met os _)) ?_
  intro W base args ds gs before hval0 hW _ _ _ _
  have hval : ∀ (j : Nat) t v, Tryd.f3.params[j]? = some t → args[j]? = some v → Value.okWide Tryd.prog W .any base t v := hval0
  have hW' := hW
  obtain ⟨p, q, hA0, hV, rfl, _, _⟩ := hW
  have hA : DataW.TrodAll enc Tryd.prog W 0 (fun _ => true) true Tryd.f3.params.toList args.toList ds p := hA0
  rw [Tryd.params3] at hA hval
  have hpl : ∀ x ∈ p, x.block < W.heap.size := fun x hx => hW'.lt x (by simp [hx])
  have hA2 := hA
  obtain ⟨v0, v1, v2, v3, v4, v5, v6, d0, d1, d2, d3, d4, d5, d6, p0, p1, p2, p3, p4, p5, p6, rfl, rfl, rfl, h0, h1, h2, h3, h4, h5, h6⟩ := trodAll_seven hA
  obtain ⟨rfl, rfl⟩ := trodVars_none hV
  obtain ⟨ss0, sa0, sc0, a20, n20, c20, a30, n30, c30, a40, n40, c40, rfl, hb0, hn0⟩ := open_spec (hval 0 27 v0 rfl rfl) h0
  obtain ⟨zs1, ra1, rc1, st1, rfl, hb1, hn1⟩ := open_scope (hval 1 30 v1 rfl rfl) h1
  obtain ⟨zs2, ra2, rc2, rfl, hb2, hn2⟩ := open_u8s (hval 2 31 v2 rfl rfl) h2
  obtain ⟨y3, rfl, _⟩ := open_i64 (hval 3 3 v3 rfl rfl) h3
  obtain ⟨zs4, ra4, rc4, rfl, hb4, hn4⟩ := open_i64s (hval 4 28 v4 rfl rfl) h4
  obtain ⟨y5, rfl, _⟩ := open_i64 (hval 5 3 v5 rfl rfl) h5
  obtain ⟨y6, rfl, hy6⟩ := open_i64 (hval 6 3 v6 rfl rfl) h6
  refine (matchesLaw_calls head_says ss0 sa0 sc0 a20 n20 c20 a30 n30 c30 a40 n40 c40 zs1 ra1 rc1 st1 zs2 ra2 rc2 y3 zs4 ra4 rc4 y5 y6 W hb0 hn0 hb1 hn1 hb2 hn2 hb4 hn4 hy6).mono fun e W' ⟨he, hw⟩ => ?_
  subst he
  have hbl := below_of hw
  exact ⟨_, rfl, _, _, _, [], _, [], hW', trodAll_mk1 (shut_bool Tryd.underlying4 _), trodAll_below hbl (by decide +kernel) hA2 hpl, rfl, hbl.frame _, fun h => by cases h⟩

theorem universeMatchesReference_holds : Rows.UniverseMatchesReferenceSaid :=
  OpenClaim.holds_of_wide 3 Tryd.f3 rfl rfl rfl rfl rfl rfl rfl ⟨rfl, rfl, rfl, rfl, rfl⟩ rfl rfl rfl rfl rfl (by kernel_rfl) Tryd.func3 (by kernel_rfl)
    (of_decide_eq_true (by kernel_rfl)) (by unfold Func.isWrapper; rw [if_neg (of_decide_eq_false (by kernel_rfl))]; exact ⟨rfl, rfl⟩)
    (fun os started H enc _ => universeMatchesReference_lifted os started H enc)

theorem universeMatchesReference_card : Rows.UniverseMatchesReferenceCardSaid :=
  Claim7.holds_tied_plain_at .later [] [.data, .data, .data] true (true, "22433573aed3e55d4af1f8b3fd94c2b9787e547caf0dfe29cae16adbb9191b6a") false
    universeMatchesReference_holds (fun _ h => by cases h) (by kernel_rfl) (fun _ h => by cases h) universeMatchesReference_row_tie rfl ⟨rfl, rfl⟩ (by kernel_rfl) rfl
    (fun f fn hf hfn => by
      obtain rfl : f = 3 := Option.some.inj ((show Tryd.prog.funcNamed "armature/armaturelaw05.UniverseMatchesReference" = some 3 by kernel_rfl).symm.trans hf) |>.symm
      obtain rfl : fn = Tryd.f3 := (Option.some.inj (Tryd.func3.symm.trans hfn)).symm
      exact ⟨by kernel_rfl, fun j t ht => by
        rw [Tryd.params3] at ht
        have hm : t ∈ [27, 30, 31, 3, 28, 3, 3] := by simpa using Array.mem_of_getElem? ht
        have hall : ([27, 30, 31, 3, 28, 3, 3].all fun u => !Tryd.prog.wantsStandIn u) = true := by kernel_rfl
        exact (show Tryd.prog.wantsStandIn t = false by simpa using List.all_eq_true.1 hall t hm)⟩)
    (by kernel_rfl)
end Go.Proofs.YtagfkapgjdaiaaaDoor
