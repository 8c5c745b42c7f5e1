/- Texts of the proof: T4. -/
import Derived.Test.YthkjjiijjedipaaDoorCD31
import Derived.Test.YthkjjiijjedipaaDoorCD32
namespace Go.Proofs.YthkjjiijjedipaaDoor

/-- The literals of the first places below k. -/
def distGo (zs : List Int) : Nat → List Int
  | 0 => []
  | k + 1 => match zs[k]? with
    | some x => if ixOf zs x = some k then distGo zs k ++ [x] else distGo zs k
    | none => distGo zs k
def tautGo (zs : List Int) : Nat → Bool
  | 0 => false
  | k + 1 => match zs[k]? with
    | some x => tautGo zs k || (ixOf zs (-x)).isSome
    | none => tautGo zs k
def distP (zs : List Int) : List Int := distGo zs zs.length
def tautP (zs : List Int) : Bool := tautGo zs zs.length
def dropGo (l : List (List Int)) : Nat → List (List Int)
  | 0 => []
  | k + 1 => match l[k]? with
    | some z => if tautP z = true then dropGo l k else dropGo l k ++ [distP z]
    | none => dropGo l k
def dropP (l : List (List Int)) : List (List Int) := dropGo l l.length
def keepGo (l : List (List Int)) : Nat → List (List Int)
  | 0 => []
  | k + 1 => match l[k]? with
    | some z => if ixOf (l.map keyP) (keyP z) = some k then keepGo l k ++ [z] else keepGo l k
    | none => keepGo l k
def keepP (l : List (List Int)) : List (List Int) := keepGo l l.length
def simpP (l : List (List Int)) : List (List Int) := keepP (dropP l)
theorem dist_yes {zs : List Int} {k : Nat} {x : Int} (hx : zs[k]? = some x) (h : ixOf zs x = some k) : distGo zs (k + 1) = distGo zs k ++ [x] := by
  show (match zs[k]? with | some x => if ixOf zs x = some k then distGo zs k ++ [x] else distGo zs k | none => distGo zs k) = _
  rw [hx]; exact if_pos h
theorem dist_no {zs : List Int} {k : Nat} {x : Int} (hx : zs[k]? = some x) (h : ¬ ixOf zs x = some k) : distGo zs (k + 1) = distGo zs k := by
  show (match zs[k]? with | some x => if ixOf zs x = some k then distGo zs k ++ [x] else distGo zs k | none => distGo zs k) = _
  rw [hx]; exact if_neg h
theorem taut_step {zs : List Int} {k : Nat} {x : Int} (hx : zs[k]? = some x) : tautGo zs (k + 1) = (tautGo zs k || (ixOf zs (-x)).isSome) := by
  show (match zs[k]? with | some x => tautGo zs k || (ixOf zs (-x)).isSome | none => tautGo zs k) = _
  rw [hx]
theorem drop_yes {l : List (List Int)} {k : Nat} {z : List Int} (hz : l[k]? = some z) (h : tautP z = false) : dropGo l (k + 1) = dropGo l k ++ [distP z] := by
  show (match l[k]? with | some z => if tautP z = true then dropGo l k else dropGo l k ++ [distP z] | none => dropGo l k) = _
  rw [hz]; exact if_neg (by rw [h]; simp)
theorem drop_no {l : List (List Int)} {k : Nat} {z : List Int} (hz : l[k]? = some z) (h : tautP z = true) : dropGo l (k + 1) = dropGo l k := by
  show (match l[k]? with | some z => if tautP z = true then dropGo l k else dropGo l k ++ [distP z] | none => dropGo l k) = _
  rw [hz]; exact if_pos h
theorem keep_yes {l : List (List Int)} {k : Nat} {z : List Int} (hz : l[k]? = some z) (h : ixOf (l.map keyP) (keyP z) = some k) : keepGo l (k + 1) = keepGo l k ++ [z] := by
  show (match l[k]? with | some z => if ixOf (l.map keyP) (keyP z) = some k then keepGo l k ++ [z] else keepGo l k | none => keepGo l k) = _
  rw [hz]; exact if_pos h
theorem keep_no {l : List (List Int)} {k : Nat} {z : List Int} (hz : l[k]? = some z) (h : ¬ ixOf (l.map keyP) (keyP z) = some k) : keepGo l (k + 1) = keepGo l k := by
  show (match l[k]? with | some z => if ixOf (l.map keyP) (keyP z) = some k then keepGo l k ++ [z] else keepGo l k | none => keepGo l k) = _
  rw [hz]; exact if_neg h
theorem dist_len (zs : List Int) : ∀ k, (distGo zs k).length ≤ k
  | 0 => Nat.le_refl _
  | k + 1 => by
    have ih := dist_len zs k
    cases hx : zs[k]? with
    | none => show (match zs[k]? with | some x => if ixOf zs x = some k then distGo zs k ++ [x] else distGo zs k | none => distGo zs k).length ≤ _; rw [hx]; simp only; omega
    | some x =>
      by_cases h : ixOf zs x = some k
      · rw [dist_yes hx h, List.length_append]; simp only [List.length_cons, List.length_nil]; omega
      · rw [dist_no hx h]; omega
theorem mem_dist {zs : List Int} {x : Int} : ∀ {k : Nat}, k ≤ zs.length → (x ∈ distGo zs k ↔ ∃ i, i < k ∧ ixOf zs x = some i)
  | 0, _ => by simp [distGo]
  | k + 1, hk => by
    have ih := mem_dist (zs := zs) (x := x) (k := k) (by omega)
    obtain ⟨y, hy⟩ : ∃ y, zs[k]? = some y := ⟨_, List.getElem?_eq_getElem (by omega)⟩
    by_cases h : ixOf zs y = some k
    · rw [dist_yes hy h, List.mem_append, List.mem_singleton, ih]
      constructor
      · rintro (⟨i, h1, h2⟩ | rfl)
        · exact ⟨i, by omega, h2⟩
        · exact ⟨k, by omega, h⟩
      · rintro ⟨i, h1, h2⟩
        by_cases e : i = k
        · subst e
          have := (ix_some.1 h2).1
          rw [hy] at this
          cases this
          exact .inr rfl
        · exact .inl ⟨i, by omega, h2⟩
    · rw [dist_no hy h, ih]
      constructor
      · rintro ⟨i, h1, h2⟩; exact ⟨i, by omega, h2⟩
      · rintro ⟨i, h1, h2⟩
        by_cases e : i = k
        · subst e
          have := (ix_some.1 h2).1
          rw [hy] at this
          cases this
          exact absurd h2 h
        · exact ⟨i, by omega, h2⟩
theorem ix_of_mem {α : Type} [DecidableEq α] {zs : List α} {x : α} (h : x ∈ zs) : ∃ i, i < zs.length ∧ ixOf zs x = some i := by
  cases hx : ixOf zs x with
  | none => exact absurd h (ix_none.1 hx)
  | some i => exact ⟨i, (List.getElem?_eq_some_iff.1 (ix_some.1 hx).1).1, rfl⟩
theorem mem_distP {zs : List Int} {x : Int} : x ∈ distP zs ↔ x ∈ zs := by
  unfold distP
  rw [mem_dist (Nat.le_refl _)]
  constructor
  · rintro ⟨i, _, h⟩; exact List.mem_of_getElem? (ix_some.1 h).1
  · intro h; exact ix_of_mem h
theorem drop_len (l : List (List Int)) : ∀ k, (dropGo l k).length ≤ k
  | 0 => Nat.le_refl _
  | k + 1 => by
    have ih := drop_len l k
    cases hx : l[k]? with
    | none => show (match l[k]? with | some z => if tautP z = true then dropGo l k else dropGo l k ++ [distP z] | none => dropGo l k).length ≤ _; rw [hx]; simp only; omega
    | some z =>
      cases h : tautP z with
      | true => rw [drop_no hx h]; omega
      | false => rw [drop_yes hx h, List.length_append]; simp only [List.length_cons, List.length_nil]; omega
theorem mem_drop {l : List (List Int)} {c : List Int} : ∀ {k : Nat}, k ≤ l.length → (c ∈ dropGo l k ↔ ∃ i z, i < k ∧ l[i]? = some z ∧ tautP z = false ∧ c = distP z)
  | 0, _ => by simp [dropGo]
  | k + 1, hk => by
    have ih := mem_drop (l := l) (c := c) (k := k) (by omega)
    obtain ⟨y, hy⟩ : ∃ y, l[k]? = some y := ⟨_, List.getElem?_eq_getElem (by omega)⟩
    cases h : tautP y with
    | false =>
      rw [drop_yes hy h, List.mem_append, List.mem_singleton, ih]
      constructor
      · rintro (⟨i, z, h1, h2⟩ | rfl)
        · exact ⟨i, z, by omega, h2⟩
        · exact ⟨k, y, by omega, hy, h, rfl⟩
      · rintro ⟨i, z, h1, h2, h3, h4⟩
        by_cases e : i = k
        · subst e
          rw [hy] at h2
          cases h2
          exact .inr h4
        · exact .inl ⟨i, z, by omega, h2, h3, h4⟩
    | true =>
      rw [drop_no hy h, ih]
      constructor
      · rintro ⟨i, z, h1, h2⟩; exact ⟨i, z, by omega, h2⟩
      · rintro ⟨i, z, h1, h2, h3, h4⟩
        by_cases e : i = k
        · subst e
          rw [hy] at h2
          cases h2
          rw [h] at h3
          cases h3
        · exact ⟨i, z, by omega, h2, h3, h4⟩
theorem mem_dropP {l : List (List Int)} {c : List Int} : c ∈ dropP l ↔ ∃ z ∈ l, tautP z = false ∧ c = distP z := by
  unfold dropP
  rw [mem_drop (Nat.le_refl _)]
  constructor
  · rintro ⟨i, z, _, h2, h3, h4⟩; exact ⟨z, List.mem_of_getElem? h2, h3, h4⟩
  · rintro ⟨z, hz, h3, h4⟩
    obtain ⟨i, hi, e⟩ := List.getElem_of_mem hz
    exact ⟨i, z, hi, by rw [List.getElem?_eq_getElem hi, e], h3, h4⟩
theorem keep_len (l : List (List Int)) : ∀ k, (keepGo l k).length ≤ k
  | 0 => Nat.le_refl _
  | k + 1 => by
    have ih := keep_len l k
    cases hx : l[k]? with
    | none => show (match l[k]? with | some z => if ixOf (l.map keyP) (keyP z) = some k then keepGo l k ++ [z] else keepGo l k | none => keepGo l k).length ≤ _; rw [hx]; simp only; omega
    | some z =>
      by_cases h : ixOf (l.map keyP) (keyP z) = some k
      · rw [keep_yes hx h, List.length_append]; simp only [List.length_cons, List.length_nil]; omega
      · rw [keep_no hx h]; omega
theorem mem_keep {l : List (List Int)} {c : List Int} : ∀ {k : Nat}, k ≤ l.length → (c ∈ keepGo l k ↔ ∃ i, i < k ∧ l[i]? = some c ∧ ixOf (l.map keyP) (keyP c) = some i)
  | 0, _ => by simp [keepGo]
  | k + 1, hk => by
    have ih := mem_keep (l := l) (c := c) (k := k) (by omega)
    obtain ⟨y, hy⟩ : ∃ y, l[k]? = some y := ⟨_, List.getElem?_eq_getElem (by omega)⟩
    by_cases h : ixOf (l.map keyP) (keyP y) = some k
    · rw [keep_yes hy h, List.mem_append, List.mem_singleton, ih]
      constructor
      · rintro (⟨i, h1, h2⟩ | rfl)
        · exact ⟨i, by omega, h2⟩
        · exact ⟨k, by omega, hy, h⟩
      · rintro ⟨i, h1, h2, h3⟩
        by_cases e : i = k
        · subst e
          rw [hy] at h2
          cases h2
          exact .inr rfl
        · exact .inl ⟨i, by omega, h2, h3⟩
    · rw [keep_no hy h, ih]
      constructor
      · rintro ⟨i, h1, h2⟩; exact ⟨i, by omega, h2⟩
      · rintro ⟨i, h1, h2, h3⟩
        by_cases e : i = k
        · subst e
          rw [hy] at h2
          cases h2
          exact absurd h3 h
        · exact ⟨i, by omega, h2, h3⟩
theorem mem_keep_sub {l : List (List Int)} {c : List Int} (h : c ∈ keepP l) : c ∈ l := by
  obtain ⟨i, _, h2, _⟩ := (mem_keep (Nat.le_refl _)).1 h
  exact List.mem_of_getElem? h2
end Go.Proofs.YthkjjiijjedipaaDoor
