/- UniverseNumbering, from its walk to its row (the examples are the parameter hh). -/
import Derived.Test.YtagfkapgjdaiaaaDoorH
import Derived.Test.YtagfkapgjdaiaaaDoorL
import Derived.Test.YtagfkapgjdaiaaaDoorCards
import Derived.Test.YtagfkapgjdaiaaaDoorTie
import Derived.SevenTiedAt
namespace Go.Proofs.YtagfkapgjdaiaaaDoor
open Go.ChangeShapes Go.WideShapes Go.ChangeAt Go.WideMaps Go.WideElems Go.RowKit
open Go.ChangeMaps (open_string shut_string)

theorem laidOut31 : laidOutB Tryd.prog = true := by kernel_rfl
set_option maxRecDepth 100000 in
theorem numbering_lifted (hh : HeadSays) (os : Os) (started : os.Started) (H : Type) (enc : TypeId × Value → H) :
    ReturnsInHanded {} Tryd.checked os 4 .any (fun w args => (Rows.universeNumberingSpec.pre enc Tryd.prog Tryd.f4 [] false w args ∧ laidMetH Tryd.prog [("math/bits.deBruijn32tab", Rows.laid_math_bits_deBruijn32tab), ("math/bits.deBruijn64tab", Rows.laid_math_bits_deBruijn64tab), ("internal/strconv.uint64pow10", Rows.laid_internal_strconv_uint64pow10)] w) ∧ sizedMet enc Tryd.prog Tryd.f4 (OpenSpec.ofChange Rows.universeNumberingSpec) false w args)
      (Rows.universeNumberingSpec.post enc Tryd.prog Tryd.f4 false true false false) := by
  refine returnsInHanded_of_change_and (C := Tryd.checked) (X := fun w _ => laidMetH Tryd.prog [("math/bits.deBruijn32tab", Rows.laid_math_bits_deBruijn32tab), ("math/bits.deBruijn64tab", Rows.laid_math_bits_deBruijn64tab), ("internal/strconv.uint64pow10", Rows.laid_internal_strconv_uint64pow10)] w) (fun _ _ _ hh h => h.of_heap hh) own started (by kernel_rfl) Tryd.func4
    (ChangeSpec.witness_shaped (enc := enc) (C := Tryd.checked) (os := os) (X := fun w _ => laidMetH Tryd.prog [("math/bits.deBruijn32tab", Rows.laid_math_bits_deBruijn32tab), ("math/bits.deBruijn64tab", Rows.laid_math_bits_deBruijn64tab), ("internal/strconv.uint64pow10", Rows.laid_internal_strconv_uint64pow10)] w) false (World.doorLaid Tryd.prog 14 os) #[.slice none 0 0] 8 rfl (World.shaped_of_RefB (by kernel_rfl) (by kernel_rfl)) (by kernel_rfl) (by kernel_rfl) (by kernel_rfl) (door_met os _)) ?_
  intro W base args ds gs before hval0 hW _ _ hL _
  have hval : ∀ (j : Nat) t v, Tryd.f4.params[j]? = some t → args[j]? = some v → Value.okWide Tryd.prog W .any base t v := hval0
  have hW' := hW
  obtain ⟨p, q, hA0, hV, rfl, hfz, hnd⟩ := hW
  have hA : DataW.TrodAll enc Tryd.prog W 0 (fun _ => true) true Tryd.f4.params.toList args.toList ds p := hA0
  rw [Tryd.params4] at hA hval
  obtain ⟨v0, d0, rfl, rfl, h0⟩ := trodAll_one hA
  obtain ⟨rfl, rfl⟩ := trodVars_none hV
  obtain ⟨ra, rn, rc, rfl⟩ := okWide_slice Tryd.underlying31 (hval 0 31 v0 rfl rfl)
  have h0' := h0
  obtain ⟨fuel, hf⟩ := h0
  have hpl : ∀ x ∈ p, x.block < W.heap.size := fun x hx => hW'.lt x (by simp [hx])
  obtain ⟨zs, z1, z2, z3, z4⟩ : ∃ zs : List Nat, zs.length = rn ∧ (∀ z ∈ zs, z < 256) ∧ ((rn : Int) ≤ 9223372036854775807) ∧
      (∀ j z : Nat, zs[j]? = some z → ∃ b o, ra = some ⟨b, o, none⟩ ∧ W.cell? ⟨b, o + j, none⟩ = some (.int .u8 (z : Int))) := by
    rcases open_ints Tryd.underlying31 Tryd.underlying5 (by kernel_rfl) hf with ⟨hcs, _⟩ | ⟨a, len', cap', zs, hcs, _, hl, hm, hz, _, hcell, hwz⟩
    · simp only [Value.cells, List.cons.injEq, Value.slice.injEq, and_true] at hcs
      obtain ⟨rfl, rfl, rfl⟩ := hcs
      refine ⟨[], rfl, ?_, by decide, ?_⟩
      · intro z hz; cases hz
      · intro j z hj; simp at hj
    · simp only [Value.cells, List.cons.injEq, Value.slice.injEq, and_true] at hcs
      obtain ⟨rfl, rfl, rfl⟩ := hcs
      have hzl : rn ≤ zs.length := by rw [hz]; simp; omega
      have hwf : ∀ n ∈ zs, ∃ y : Nat, n = (y : Int) ∧ y < 256 := fun n hn => nat_u8 (hwz n hn)
      refine ⟨(zs.take rn).map Int.toNat, by simp; omega, fun z hzm => ?_, by unfold maxLen at hm; omega, fun j z hj => ?_⟩
      · obtain ⟨n, hn, rfl⟩ := List.mem_map.1 hzm
        obtain ⟨y, rfl, hy⟩ := hwf n (List.mem_of_mem_take hn)
        simpa using hy
      · rw [List.getElem?_map, List.getElem?_take] at hj
        split at hj
        · rename_i hjl
          have hjz : j < zs.length := by omega
          obtain ⟨b, off, rfl, hc⟩ := ints_at hcell (by omega)
          rw [List.getElem?_eq_getElem hjz] at hj
          simp only [Option.map_some, Option.some.injEq] at hj
          obtain ⟨y, hy, _⟩ := hwf zs[j] (List.getElem_mem hjz)
          refine ⟨b, off, rfl, ?_⟩
          have := hc j hjz
          rw [List.getD_eq_getElem?_getD, List.getElem?_eq_getElem hjz, Option.getD_some, hy] at this
          rw [this, ← hj, hy]; simp
        · simp at hj
  subst z1
  refine (numbering_calls hh zs ra rc W ⟨z2, z4⟩ z3).mono fun e W' ⟨he, hw⟩ => ?_
  subst he
  have hbl := below_of hw
  have hts := Below.trod (enc := enc) (P := Tryd.prog) (t := 31) laidOut31 (by kernel_rfl) (by decide +kernel) h0' hbl hpl
  exact ⟨_, rfl, _, _, _, [], _, [], hW', trodAll_mk1 (shut_bool Tryd.underlying4 _), trodAll_mk1 hts, rfl, hbl.frame _, fun h => by cases h⟩

theorem numbering_holds (hh : HeadSays) : Rows.UniverseNumberingSaid :=
  OpenClaim.holds_of_wide 4 Tryd.f4 rfl rfl rfl rfl rfl rfl rfl ⟨rfl, rfl, rfl, rfl, rfl⟩ rfl rfl rfl rfl rfl (by kernel_rfl) Tryd.func4 (by kernel_rfl)
    (of_decide_eq_true (by kernel_rfl)) (by unfold Func.isWrapper; rw [if_neg (of_decide_eq_false (by kernel_rfl))]; exact ⟨rfl, rfl⟩)
    (fun os started H enc _ => numbering_lifted hh os started H enc)
end Go.Proofs.YtagfkapgjdaiaaaDoor
