/- Plain: overrides. -/
import Derived.Test.YtkoigonbncpbaaaM5
namespace Go.Proofs.Ytkoigonbncpbaaa
open Go.RowKit

section
variable {n k r : Nat} {A B C : List Int}
theorem hs_keep (_hA : VR n k A) (hB : VR n k B) {z : Nat} : Hs (keepL r A B) z ↔ Hs A z ∧ ∀ y, Hs B y → y / r ≠ z / r := by
  rw [Hs, keepL, List.mem_filter]
  simp only [Bool.not_eq_true', decide_eq_false_iff_not, divL, List.mem_map, not_exists, not_and]
  constructor
  · rintro ⟨h1, h2⟩
    exact ⟨h1, fun y hy e => h2 _ hy (by exact_mod_cast e)⟩
  · rintro ⟨h1, h2⟩
    refine ⟨h1, fun y hy e => ?_⟩
    obtain ⟨m, rfl, _⟩ := hB.nat hy
    exact h2 m hy (by exact_mod_cast e)
theorem hs_over (hA : VR n k A) (hB : VR n k B) {z : Nat} : Hs (overL r A B) z ↔ (Hs A z ∧ ∀ y, Hs B y → y / r ≠ z / r) ∨ Hs B z := by
  rw [overL, hs_union hA.keep hB, hs_keep hA hB]
theorem ov_none (hA : VR n k A) : overL r A [] = A := vr_ext (hA.over (VR.nil n k)) hA fun z _ => by
  rw [hs_over hA (VR.nil n k)]
  exact ⟨fun h => h.elim (·.1) (fun h => by cases h), fun h => .inl ⟨h, fun y hy => by cases hy⟩⟩
theorem ov_empty (hA : VR n k A) : overL r [] A = A := vr_ext ((VR.nil n k).over hA) hA fun z _ => by
  rw [hs_over (VR.nil n k) hA]
  exact ⟨fun h => h.elim (fun h => by cases h.1) id, .inr⟩
theorem ov_self (hA : VR n k A) : overL r A A = A := vr_ext (hA.over hA) hA fun z _ => by
  rw [hs_over hA hA]
  exact ⟨fun h => h.elim (·.1) id, .inr⟩
theorem ov_in (hA : VR n k A) (hB : VR n k B) : ∀ z ∈ B, z ∈ overL r A B := vr_sub hB fun _z _ h => (hs_over hA hB).2 (.inr h)
theorem ov_diff (hA : VR n k A) (hB : VR n k B) : ∀ z ∈ diffL (overL r A B) B, z ∈ A := vr_sub ((hA.over hB).diff hB) fun z _ h => by
  rw [hs_diff (hA.over hB) hB, hs_over hA hB] at h
  exact h.1.elim (·.1) (fun h' => absurd h' h.2)
theorem ov_assoc (hA : VR n k A) (hB : VR n k B) (hC : VR n k C) : overL r (overL r A B) C = overL r A (overL r B C) := vr_ext ((hA.over hB).over hC) (hA.over (hB.over hC)) fun z _ => by
  rw [hs_over (hA.over hB) hC, hs_over hA hB, hs_over hA (hB.over hC), hs_over hB hC]
  constructor
  · rintro (⟨⟨h1, h2⟩ | h1, h3⟩ | h1)
    · refine .inl ⟨h1, fun y hy => ?_⟩
      rcases (hs_over hB hC).1 hy with hy | hy
      · exact h2 y hy.1
      · exact h3 y hy
    · exact .inr (.inl ⟨h1, h3⟩)
    · exact .inr (.inr h1)
  · rintro (⟨h1, h2⟩ | ⟨h1, h2⟩ | h1)
    · by_cases hc : ∃ y, Hs C y ∧ y / r = z / r
      · obtain ⟨y, hy, e⟩ := hc
        exact absurd e (h2 y ((hs_over hB hC).2 (.inr hy)))
      · refine .inl ⟨.inl ⟨h1, fun y hy e => ?_⟩, fun y hy e => hc ⟨y, hy, e⟩⟩
        by_cases hc2 : ∃ w, Hs C w ∧ w / r = y / r
        · obtain ⟨w, hw, e2⟩ := hc2
          exact hc ⟨w, hw, e2.trans e⟩
        · exact h2 y ((hs_over hB hC).2 (.inl ⟨hy, fun w hw e2 => hc2 ⟨w, hw, e2⟩⟩)) e
    · exact .inl ⟨.inr h1, h2⟩
    · exact .inr h1
/-- The first coordinates: the override's are the two relations' together. -/
theorem ov_first (hA : VR n k A) (hB : VR n k B) : uniq (divL r (overL r A B)) = unionL (uniq (divL r A)) (uniq (divL r B)) := by
  refine up_ext (uniq_up _) (merge_up _ _ _ (uniq_up _) (uniq_up _)) fun z => ?_
  rw [mem_union (uniq_up _) (uniq_up _), mem_uniq, mem_uniq, mem_uniq]
  simp only [divL, List.mem_map]
  constructor
  · rintro ⟨x, hx, rfl⟩
    rcases (mem_union hA.keep.up hB.up).1 hx with hx | hx
    · exact .inl ⟨x, (List.mem_filter.1 hx).1, rfl⟩
    · exact .inr ⟨x, hx, rfl⟩
  · rintro (⟨x, hx, rfl⟩ | ⟨x, hx, rfl⟩)
    · by_cases hc : x / (r : Int) ∈ divL r B
      · obtain ⟨y, hy, e⟩ := List.mem_map.1 hc
        exact ⟨y, (mem_union hA.keep.up hB.up).2 (.inr hy), e⟩
      · exact ⟨x, (mem_union hA.keep.up hB.up).2 (.inl (List.mem_filter.2 ⟨hx, by simp [hc]⟩)), rfl⟩
    · exact ⟨x, (mem_union hA.keep.up hB.up).2 (.inr hx), rfl⟩
end
end Go.Proofs.Ytkoigonbncpbaaa
