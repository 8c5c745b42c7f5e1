/- LexerStable is proved: for every input, the law returns true and leaves its arguments as they were; the condition is that the package variable lexer.symbols holds what its initialiser lays, which the given tie ties to the text of the pruned copy of the program. -/
import Derived.Test.YtmcokfalkkjgmaaDoorAh
import Derived.Test.YtmcokfalkkjgmaaDoorO
import Derived.Test.YtmcokfalkkjgmaaDoorCards
import Derived.Test.YtmcokfalkkjgmaaDoorTie
import Derived.SevenTiedAt
namespace Go.Proofs.YtmcokfalkkjgmaaDoor
open Go.ChangeShapes Go.WideShapes Go.ChangeAt Go.WideMaps Go.WideElems Go.RowKit
open Go.ChangeMaps (open_string shut_string)

theorem laidOut32s : laidOutB Tryd.prog = true := by kernel_rfl
set_option maxRecDepth 100000 in
theorem stable_lifted (os : Os) (started : os.Started) (H : Type) (enc : TypeId × Value → H) :
    ReturnsInHanded {} Tryd.checked os 5 .any (fun w args => (Rows.lexerStableSpec.pre enc Tryd.prog Tryd.f5 [] false w args ∧ laidMetH Tryd.prog [("armature/lexer.symbols", Rows.laid_armature_lexer_symbols)] w) ∧ sizedMet enc Tryd.prog Tryd.f5 (OpenSpec.ofChange Rows.lexerStableSpec) false w args)
      (Rows.lexerStableSpec.post enc Tryd.prog Tryd.f5 false true false false) := by
  refine returnsInHanded_of_change_and (C := Tryd.checked) (X := fun w _ => laidMetH Tryd.prog [("armature/lexer.symbols", Rows.laid_armature_lexer_symbols)] w) (fun _ _ _ hh h => h.of_heap hh) own started (by kernel_rfl) Tryd.func5
    (ChangeSpec.witness_shaped (enc := enc) (C := Tryd.checked) (os := os) (X := fun w _ => laidMetH Tryd.prog [("armature/lexer.symbols", Rows.laid_armature_lexer_symbols)] w) false (World.doorLaid Tryd.prog 14 os) #[.string ByteArray.empty, .slice none 0 0] 8 rfl (World.shaped_of_RefB (by kernel_rfl) (by kernel_rfl)) (by kernel_rfl) (by kernel_rfl) (by kernel_rfl) (door_met os _)) ?_
  intro W base args ds gs before hval0 hW _ _ hL _
  have hval : ∀ (j : Nat) t v, Tryd.f5.params[j]? = some t → args[j]? = some v → Value.okWide Tryd.prog W .any base t v := hval0
  have hW' := hW
  obtain ⟨p, q, hA0, hV, rfl, hfz, hnd⟩ := hW
  have hA : DataW.TrodAll enc Tryd.prog W 0 (fun _ => true) true Tryd.f5.params.toList args.toList ds p := hA0
  rw [Tryd.params5] at hA hval
  obtain ⟨v0, v1, d0, d1, p0, p1, rfl, rfl, rfl, h0, h1⟩ := trodAll_two hA
  obtain ⟨rfl, rfl⟩ := trodVars_none hV
  obtain ⟨s0, rfl, rfl, rfl, hs0⟩ := open_string Tryd.underlying9 (hval 0 9 v0 rfl rfl) h0
  have hy := syms_of hL
  obtain ⟨ra, rn, rc, rfl⟩ := okWide_slice Tryd.underlying32 (hval 1 32 v1 rfl rfl)
  have h1' := h1
  obtain ⟨fuel, hf⟩ := h1
  have hpl : ∀ x ∈ p1, x.block < W.heap.size := fun x hx => hW'.lt x (by simp [hx])
  obtain ⟨zs, z1, z2, z3, z4⟩ : ∃ zs : List Nat, zs.length = rn ∧ (∀ z ∈ zs, z < 256) ∧ ((rn : Int) ≤ 9223372036854775807) ∧
      (∀ j z : Nat, zs[j]? = some z → ∃ b o, ra = some ⟨b, o, none⟩ ∧ W.cell? ⟨b, o + j, none⟩ = some (.int .u8 (z : Int))) := by
    rcases open_ints Tryd.underlying32 Tryd.underlying5 (by kernel_rfl) hf with ⟨hcs, _⟩ | ⟨a, len', cap', zs, hcs, _, hl, hm, hz, _, hcell, hwz⟩
    · simp only [Value.cells, List.cons.injEq, Value.slice.injEq, and_true] at hcs
      obtain ⟨rfl, rfl, rfl⟩ := hcs
      refine ⟨[], rfl, ?_, by decide, ?_⟩
      · intro z hz; cases hz
      · intro j z hj; simp at hj
    · simp only [Value.cells, List.cons.injEq, Value.slice.injEq, and_true] at hcs
      obtain ⟨rfl, rfl, rfl⟩ := hcs
      have hzl : rn ≤ zs.length := by rw [hz]; simp; omega
      have hwf : ∀ n ∈ zs, ∃ y : Nat, n = (y : Int) ∧ y < 256 := fun n hn => nat_u8 (hwz n hn)
      refine ⟨(zs.take rn).map Int.toNat, by simp; omega, fun z hzm => ?_, by unfold maxLen at hm; omega, fun j z hj => ?_⟩
      · obtain ⟨n, hn, rfl⟩ := List.mem_map.1 hzm
        obtain ⟨y, rfl, hy⟩ := hwf n (List.mem_of_mem_take hn)
        simpa using hy
      · rw [List.getElem?_map, List.getElem?_take] at hj
        split at hj
        · rename_i hjl
          have hjz : j < zs.length := by omega
          obtain ⟨b, off, rfl, hc⟩ := ints_at hcell (by omega)
          rw [List.getElem?_eq_getElem hjz] at hj
          simp only [Option.map_some, Option.some.injEq] at hj
          obtain ⟨y, hy, _⟩ := hwf zs[j] (List.getElem_mem hjz)
          refine ⟨b, off, rfl, ?_⟩
          have := hc j hjz
          rw [List.getD_eq_getElem?_getD, List.getElem?_eq_getElem hjz, Option.getD_some, hy] at this
          rw [this, ← hj, hy]; simp
        · simp at hj
  refine (stable_calls s0 ra rn rc zs W hs0 z1 z2 z3 z4 hy).mono fun e W' ⟨he, hw⟩ => ?_
  subst he
  have hbl := below_of hw
  have hts := Below.trod (enc := enc) (P := Tryd.prog) (t := 32) laidOut32s (by kernel_rfl) (by decide +kernel) h1' hbl hpl
  exact ⟨_, rfl, _, _, _, [], [] ++ p1, [], hW', trodAll_mk1 (shut_bool Tryd.underlying4 _), trodAll_mk2 (shut_string Tryd.underlying9 hs0) hts, rfl, hbl.frame _, fun h => by cases h⟩

theorem stable_holds : Rows.LexerStableSaid :=
  OpenClaim.holds_of_wide 5 Tryd.f5 rfl rfl rfl rfl rfl rfl rfl ⟨rfl, rfl, rfl, rfl, rfl⟩ rfl rfl rfl rfl rfl (by kernel_rfl) Tryd.func5 (by kernel_rfl)
    (of_decide_eq_true (by kernel_rfl)) (by unfold Func.isWrapper; rw [if_neg (of_decide_eq_false (by kernel_rfl))]; exact ⟨rfl, rfl⟩)
    (fun os started H enc _ => stable_lifted os started H enc)

theorem stable_card : Rows.LexerStableCardSaid :=
  Claim7.holds_tied_plain_at .later [] [.data] true (true, "d565f7a37d77ef256f0447b0a07ac74ed60c6b2b7ea88604e99857564a0f80a6") false
    stable_holds (fun _ h => by cases h) (by kernel_rfl) (fun _ h => by cases h) lexerStable_row_tie rfl ⟨rfl, rfl⟩ (by kernel_rfl) rfl
    (fun f fn hf hfn => by
      obtain rfl : f = 5 := Option.some.inj ((show Tryd.prog.funcNamed "armature/armaturelaw01.LexerStable" = some 5 by kernel_rfl).symm.trans hf) |>.symm
      obtain rfl : fn = Tryd.f5 := (Option.some.inj (Tryd.func5.symm.trans hfn)).symm
      exact ⟨by kernel_rfl, fun j t ht => by
        rw [Tryd.params5] at ht
        have hm : t ∈ [9, 32] := by simpa using Array.mem_of_getElem? ht
        have hall : ([9, 32].all fun u => !Tryd.prog.wantsStandIn u) = true := by kernel_rfl
        exact (show Tryd.prog.wantsStandIn t = false by simpa using List.all_eq_true.1 hall t hm)⟩)
    (by kernel_rfl)
#print axioms stable_card
end Go.Proofs.YtmcokfalkkjgmaaDoor
