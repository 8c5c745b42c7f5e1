/- Texts of the proof: T6. -/
import Derived.Test.YthkjjiijjedipaaDoorCD33
import Derived.Test.YthkjjiijjedipaaDoorCD07
import Derived.Test.YthkjjiijjedipaaDoorCD06
namespace Go.Proofs.YthkjjiijjedipaaDoor
open Go.RowKit
theorem dist_nodup (zs : List Int) : ∀ k, k ≤ zs.length → (distGo zs k).Nodup
  | 0, _ => List.nodup_nil
  | k + 1, hk => by
    obtain ⟨x, hx⟩ : ∃ x, zs[k]? = some x := ⟨_, List.getElem?_eq_getElem (by omega)⟩
    by_cases h : ixOf zs x = some k
    · rw [dist_yes hx h]
      refine List.nodup_append.2 ⟨dist_nodup zs k (by omega), by simp, fun a ha b hb e => ?_⟩
      rw [List.mem_singleton] at hb
      subst hb
      subst e
      obtain ⟨i, hi, e2⟩ := (mem_dist (by omega)).1 ha
      rw [h] at e2
      cases e2
      omega
    · rw [dist_no hx h]
      exact dist_nodup zs k (by omega)
theorem ix_nodup {α : Type} [DecidableEq α] {zs : List α} (h : zs.Nodup) {k : Nat} {x : α} (hx : zs[k]? = some x) : ixOf zs x = some k := by
  refine ix_some.2 ⟨hx, fun j hj e => ?_⟩
  obtain ⟨h3, h4⟩ := List.getElem?_eq_some_iff.1 hx
  obtain ⟨h5, h6⟩ := List.getElem?_eq_some_iff.1 e
  exact List.pairwise_iff_getElem.1 h j k h5 h3 hj (by rw [h4, h6])
theorem dist_self {zs : List Int} (h : zs.Nodup) : ∀ k, k ≤ zs.length → distGo zs k = zs.take k
  | 0, _ => by simp [distGo]
  | k + 1, hk => by
    obtain ⟨x, hx⟩ : ∃ x, zs[k]? = some x := ⟨_, List.getElem?_eq_getElem (by omega)⟩
    rw [dist_yes hx (ix_nodup h hx), dist_self h k (by omega), List.take_add_one, hx]
    rfl
theorem distP_nodup (zs : List Int) : (distP zs).Nodup := dist_nodup zs _ (Nat.le_refl _)
theorem distP_self {zs : List Int} (h : zs.Nodup) : distP zs = zs := by
  unfold distP
  rw [dist_self h _ (Nat.le_refl _), List.take_length]
theorem taut_iff {zs : List Int} : ∀ {k : Nat}, k ≤ zs.length → (tautGo zs k = true ↔ ∃ x ∈ zs.take k, -x ∈ zs)
  | 0, _ => by simp [tautGo]
  | k + 1, hk => by
    obtain ⟨x, hx⟩ : ∃ x, zs[k]? = some x := ⟨_, List.getElem?_eq_getElem (by omega)⟩
    have hm : (ixOf zs (-x)).isSome = true ↔ -x ∈ zs := by
      cases h : ixOf zs (-x) with
      | none => simp [ix_none.1 h]
      | some i => simp [List.mem_of_getElem? (ix_some.1 h).1]
    rw [taut_step hx, Bool.or_eq_true, taut_iff (by omega), hm, List.take_add_one, hx]
    constructor
    · rintro (⟨y, h1, h2⟩ | h)
      · exact ⟨y, by simp [h1], h2⟩
      · exact ⟨x, by simp, h⟩
    · rintro ⟨y, h1, h2⟩
      rcases List.mem_append.1 h1 with h1 | h1
      · exact .inl ⟨y, h1, h2⟩
      · simp at h1
        subst h1
        exact .inr h2
theorem tautP_iff {zs : List Int} : tautP zs = true ↔ ∃ x ∈ zs, -x ∈ zs := by
  unfold tautP
  rw [taut_iff (Nat.le_refl _), List.take_length]
theorem tautP_dist (zs : List Int) : tautP (distP zs) = tautP zs := by
  have h : tautP (distP zs) = true ↔ tautP zs = true := by
    rw [tautP_iff, tautP_iff]
    simp [mem_distP]
  cases h1 : tautP (distP zs) <;> cases h2 : tautP zs <;> simp_all
theorem drop_self {l : List (List Int)} (h : ∀ c ∈ l, tautP c = false ∧ distP c = c) : ∀ k, k ≤ l.length → dropGo l k = l.take k
  | 0, _ => by simp [dropGo]
  | k + 1, hk => by
    obtain ⟨x, hx⟩ : ∃ x, l[k]? = some x := ⟨_, List.getElem?_eq_getElem (by omega)⟩
    have := h x (List.mem_of_getElem? hx)
    rw [drop_yes hx this.1, this.2, drop_self h k (by omega), List.take_add_one, hx]
    rfl
theorem keep_self {l : List (List Int)} (h : (l.map keyP).Nodup) : ∀ k, k ≤ l.length → keepGo l k = l.take k
  | 0, _ => by simp [keepGo]
  | k + 1, hk => by
    obtain ⟨x, hx⟩ : ∃ x, l[k]? = some x := ⟨_, List.getElem?_eq_getElem (by omega)⟩
    have hx2 : (l.map keyP)[k]? = some (keyP x) := by rw [List.getElem?_map, hx]; rfl
    rw [keep_yes hx (ix_nodup h hx2), keep_self h k (by omega), List.take_add_one, hx]
    rfl
theorem keep_nodup (l : List (List Int)) : ∀ k, k ≤ l.length → ((keepGo l k).map keyP).Nodup
  | 0, _ => List.nodup_nil
  | k + 1, hk => by
    obtain ⟨x, hx⟩ : ∃ x, l[k]? = some x := ⟨_, List.getElem?_eq_getElem (by omega)⟩
    by_cases h : ixOf (l.map keyP) (keyP x) = some k
    · rw [keep_yes hx h, List.map_append]
      refine List.nodup_append.2 ⟨keep_nodup l k (by omega), by simp, fun a ha b hb e => ?_⟩
      simp at hb
      subst hb
      subst e
      obtain ⟨c, hc, e1⟩ := List.mem_map.1 ha
      obtain ⟨i, hi, _, e2⟩ := (mem_keep (by omega)).1 hc
      rw [e1, h] at e2
      cases e2
      omega
    · rw [keep_no hx h]
      exact keep_nodup l k (by omega)
theorem simp_mem {l : List (List Int)} {c : List Int} (h : c ∈ simpP l) : ∃ z ∈ l, tautP z = false ∧ c = distP z := mem_dropP.1 (mem_keep_sub h)
theorem simp_again (l : List (List Int)) : simpP (simpP l) = simpP l := by
  have h1 : dropP (simpP l) = simpP l := by
    unfold dropP
    rw [drop_self (fun c hc => ?_) _ (Nat.le_refl _), List.take_length]
    obtain ⟨z, _, h2, rfl⟩ := simp_mem hc
    exact ⟨by rw [tautP_dist]; exact h2, distP_self (distP_nodup z)⟩
  show keepP (dropP (simpP l)) = simpP l
  rw [h1]
  unfold keepP
  rw [keep_self ?_ _ (Nat.le_refl _), List.take_length]
  exact keep_nodup _ _ (Nat.le_refl _)
theorem any_mem {p : Int → Bool} {a b : List Int} (h : ∀ x, x ∈ a ↔ x ∈ b) : a.any p = b.any p := by
  have : a.any p = true ↔ b.any p = true := by simp [List.any_eq_true, h]
  cases h1 : a.any p <;> cases h2 : b.any p <;> simp_all
theorem sat_simp (w : List Bool) {l : List (List Int)} (h0 : ∀ z ∈ l, ∀ x ∈ z, x ≠ 0 ∧ Nine x) : satP w (simpP l) = satP w l := by
  have hd : ∀ {c : List Int}, c ∈ dropP l → ∀ x ∈ c, Nine x := fun {c} hc x hx => by
    obtain ⟨z, hz, _, rfl⟩ := mem_dropP.1 hc
    exact (h0 z hz x (mem_distP.1 hx)).2
  have key : satP w (simpP l) = true ↔ satP w l = true := by
    unfold satP
    rw [List.all_eq_true, List.all_eq_true]
    constructor
    · intro h z hz
      cases ht : tautP z with
      | true =>
        obtain ⟨x, hx, hnx⟩ := tautP_iff.1 ht
        have hn := holds_neg w (h0 z hz x hx).1
        rw [List.any_eq_true]
        cases hh : holdsP w x with
        | true => exact ⟨x, hx, hh⟩
        | false => exact ⟨-x, hnx, by rw [hn, hh]; rfl⟩
      | false =>
        have hm : distP z ∈ dropP l := mem_dropP.2 ⟨z, hz, ht, rfl⟩
        obtain ⟨i, hi, e⟩ := ix_of_mem (List.mem_map.2 ⟨distP z, hm, rfl⟩ : keyP (distP z) ∈ (dropP l).map keyP)
        obtain ⟨e1, _⟩ := ix_some.1 e
        rw [List.getElem?_map] at e1
        obtain ⟨c, hc, e2⟩ := Option.map_eq_some_iff.1 e1
        rw [List.length_map] at hi
        have hk : c ∈ simpP l := (mem_keep (Nat.le_refl _)).2 ⟨i, hi, hc, by rw [e2]; exact e⟩
        have hs := (key_inj (hd (List.mem_of_getElem? hc)) (hd hm)).1 e2
        have hcz : ∀ x, x ∈ c ↔ x ∈ z := fun x => by rw [← mem_msort, hs, mem_msort, mem_distP]
        rw [← any_mem hcz]
        exact h c hk
    · intro h c hc
      obtain ⟨z, hz, _, rfl⟩ := simp_mem hc
      rw [any_mem (fun x => mem_distP)]
      exact h z hz
  cases h1 : satP w (simpP l) <;> cases h2 : satP w l <;> simp_all
theorem simp_valid {v : Int} {l : List (List Int)} (h : litsOk v l = true) : litsOk v (simpP l) = true := by
  unfold litsOk at *
  rw [List.all_eq_true] at *
  intro c hc
  obtain ⟨z, hz, _, rfl⟩ := simp_mem hc
  have := h z hz
  rw [List.all_eq_true] at *
  exact fun x hx => this x (mem_distP.1 hx)
theorem simp_len (l : List (List Int)) : (simpP l).length ≤ l.length := Nat.le_trans (keep_len _ _) (drop_len _ _)
theorem simp_pair {l : List (List Int)} {c : List Int} (h : c ∈ simpP l) {i j : Nat} {x y : Int} (hij : i < j) (hx : c[i]? = some x) (hy : c[j]? = some y) : x ≠ y ∧ x ≠ -y := by
  obtain ⟨z, hz, ht, rfl⟩ := simp_mem h
  constructor
  · intro e
    subst e
    have h1 := ix_nodup (distP_nodup z) hx
    have h2 := ix_nodup (distP_nodup z) hy
    rw [h1] at h2
    cases h2
    omega
  · intro e
    have : tautP z = true := by
      rw [tautP_iff]
      exact ⟨y, mem_distP.1 (List.mem_of_getElem? hy), by rw [← e]; exact mem_distP.1 (List.mem_of_getElem? hx)⟩
    rw [ht] at this
    cases this
end Go.Proofs.YthkjjiijjedipaaDoor
