/- What the law of free tuples says of lists. -/
import Derived.Test.YtbddpjofhddilaaNWN
namespace Go.Proofs.Ytbddpjofhddilaa
open Go.RowKit

/-- The tuples of a row that another lacks, in order. -/
theorem diff_filter {xs ys : List Int} (hx : Up xs) (hy : Up ys) : diffL xs ys = xs.filter fun z => !decide (z ∈ ys) := by
  refine up_ext (merge_up _ _ _ hx hy) (hx.sublist List.filter_sublist) fun z => ?_
  rw [mem_diff hx hy, List.mem_filter]
  simp
theorem filter_not_len {xs ys : List Int} (hs : ∀ z ∈ ys, z ∈ xs) (hx : Up xs) (hy : Up ys) : (xs.filter fun z => decide (z ∈ ys)).length = ys.length := by
  have : (xs.filter fun z => decide (z ∈ ys)) = ys := up_ext (hx.sublist List.filter_sublist) hy fun z => by
    rw [List.mem_filter]
    simp only [decide_eq_true_eq]
    exact ⟨fun h => h.2, fun h => ⟨hs z h, h⟩⟩
  rw [this]
theorem filter_split (p : Int → Bool) : ∀ l : List Int, (l.filter p).length + (l.filter fun z => !p z).length = l.length
  | [] => rfl
  | x :: l => by
    have ih := filter_split p l
    cases h : p x <;> simp [h] <;> omega
theorem diff_len {xs ys : List Int} (hx : Up xs) (hy : Up ys) (hs : ∀ z ∈ ys, z ∈ xs) : (diffL xs ys).length + ys.length = xs.length := by
  rw [diff_filter hx hy]
  have h1 := filter_not_len hs hx hy
  have h2 := filter_split (fun z => decide (z ∈ ys)) xs
  omega
/-- What stands in the row of free tuples. -/
theorem mem_free {A DB : List Bd} (hA : GoodL A DB) : ∀ {n : Nat} {p : Int × Int}, p ∈ freeTo A n → ∃ (i : Nat) (x : Bd), p.1 = (i : Int) ∧ i < n ∧ A[i]? = some x ∧ p.2 ∈ x.2.2 ∧ p.2 ∉ x.1.2
  | 0, p, h => by cases h
  | n + 1, p, h => by
    have low : p ∈ freeTo A n → ∃ (i : Nat) (x : Bd), p.1 = (i : Int) ∧ i < n + 1 ∧ A[i]? = some x ∧ p.2 ∈ x.2.2 ∧ p.2 ∉ x.1.2 := fun h => by
      obtain ⟨i, x, h1, h2, h3⟩ := mem_free hA h
      exact ⟨i, x, h1, by omega, h3⟩
    cases hx : A[n]? with
    | none => rw [freeTo, hx, List.append_nil] at h; exact low h
    | some x =>
      rw [freeTo_succ hx, List.mem_append] at h
      rcases h with h | h
      · exact low h
      · obtain ⟨r, hr, rfl⟩ := List.mem_map.1 h
        obtain ⟨d, hd⟩ := getL hA.1 hx
        have g := hA.2 n x d hx hd
        exact ⟨n, x, rfl, by omega, hx, (mem_diff g.u2 g.u1).1 hr⟩
/-- The row of free tuples is in order. -/
def LexLt (p q : Int × Int) : Prop := p.1 < q.1 ∨ (p.1 = q.1 ∧ p.2 < q.2)
theorem free_sorted {A DB : List Bd} (hA : GoodL A DB) : ∀ n : Nat, (freeTo A n).Pairwise LexLt
  | 0 => List.Pairwise.nil
  | n + 1 => by
    have ih := free_sorted hA n
    cases hx : A[n]? with
    | none => rw [freeTo, hx, List.append_nil]; exact ih
    | some x =>
      rw [freeTo_succ hx, List.pairwise_append]
      obtain ⟨d, hd⟩ := getL hA.1 hx
      have g := hA.2 n x d hx hd
      refine ⟨ih, List.pairwise_map.2 ((merge_up _ _ _ g.u2 g.u1).imp fun h => .inr ⟨rfl, h⟩), fun p hp q hq => ?_⟩
      obtain ⟨i, _, h1, h2, _⟩ := mem_free hA hp
      obtain ⟨r, _, rfl⟩ := List.mem_map.1 hq
      exact .inl (by rw [h1]; show (i : Int) < (n : Int); omega)
theorem free_next {A DB : List Bd} (hA : GoodL A DB) {n k : Nat} {p q : Int × Int} (hp : (freeTo A n)[k]? = some p) (hq : (freeTo A n)[k + 1]? = some q) : LexLt p q := by
  obtain ⟨h1, rfl⟩ := List.getElem?_eq_some_iff.1 hp
  obtain ⟨h2, rfl⟩ := List.getElem?_eq_some_iff.1 hq
  exact List.pairwise_iff_getElem.1 (free_sorted hA n) k (k + 1) h1 h2 (by omega)
/-- How many tuples lie in the upper rows and not in the lower. -/
def gapTo (A : List Bd) : Nat → Int
  | 0 => 0
  | i + 1 => gapTo A i + (match A[i]? with | some x => (x.2.2.length : Int) - x.1.2.length | none => 0)
theorem gapTo_succ {A : List Bd} {i : Nat} {x : Bd} (h : A[i]? = some x) : gapTo A (i + 1) = gapTo A i + x.2.2.length - x.1.2.length := by rw [gapTo, h]; simp only []; omega
theorem free_gap {A DB : List Bd} (hA : GoodL A DB) : ∀ n : Nat, ((freeTo A n).length : Int) = gapTo A n
  | 0 => rfl
  | n + 1 => by
    have ih := free_gap hA n
    cases hx : A[n]? with
    | none => rw [freeTo, gapTo, hx, List.append_nil, ih]; simp only []; omega
    | some x =>
      obtain ⟨d, hd⟩ := getL hA.1 hx
      have g := hA.2 n x d hx hd
      have := diff_len g.u2 g.u1 g.s1
      rw [freeTo_succ hx, gapTo_succ hx, List.length_append, freeX, List.length_map]
      omega
/-- How many picks a row uses. -/
theorem insTo_used (lo : List Int) (P : List Bool) (hi : List Int) (m : Nat) : ∀ k, (insTo lo P hi m k).2 = m + ((hi.take k).filter fun z => !decide (z ∈ lo)).length
  | 0 => by simp [insTo]
  | k + 1 => by
    have ih := insTo_used lo P hi m k
    cases h : hi[k]? with
    | none =>
      rw [insTo, h, List.take_add_one, h]
      simpa using ih
    | some t =>
      rw [List.take_add_one, h, Option.toList_some, List.filter_append]
      by_cases ht : t ∈ lo
      · rw [insTo_in h ht]; simp [ht, ih]
      · cases hp : P.getD (insTo lo P hi m k).2 false with
        | true => rw [insTo_pick h ht hp]; simp only [List.length_append]; simp [ht, ih]; omega
        | false => rw [insTo_skip h ht hp]; simp only [List.length_append]; simp [ht, ih]; omega
theorem insTo_same (lo : List Int) (P Q : List Bool) (hi : List Int) (m : Nat) : ∀ k, (∀ j, m ≤ j → j < (insTo lo P hi m k).2 → P.getD j false = Q.getD j false) → (insTo lo P hi m k).1 = (insTo lo Q hi m k).1
  | 0, _ => rfl
  | k + 1, h => by
    have hu : (insTo lo P hi m k).2 = (insTo lo Q hi m k).2 := by rw [insTo_used, insTo_used]
    have hm : m ≤ (insTo lo P hi m k).2 := by rw [insTo_used]; omega
    cases hk : hi[k]? with
    | none =>
      have ih := insTo_same lo P Q hi m k (fun j h1 h2 => h j h1 (by rw [insTo, hk]; exact h2))
      rw [insTo, insTo, hk]; exact ih
    | some t =>
      by_cases ht : t ∈ lo
      · have ih := insTo_same lo P Q hi m k (fun j h1 h2 => h j h1 (by rw [insTo_in hk ht]; exact h2))
        rw [insTo_in hk ht, insTo_in hk ht, ih]
      · have e : (insTo lo P hi m (k + 1)).2 = (insTo lo P hi m k).2 + 1 := by
          cases hp : P.getD (insTo lo P hi m k).2 false with
          | true => rw [insTo_pick hk ht hp]
          | false => rw [insTo_skip hk ht hp]
        have ih := insTo_same lo P Q hi m k (fun j h1 h2 => h j h1 (by rw [e]; omega))
        have hpq := h _ hm (by rw [e]; omega)
        cases hp : P.getD (insTo lo P hi m k).2 false with
        | true => rw [insTo_pick hk ht hp, insTo_pick hk ht (by rw [← hu, ← hpq]; exact hp), ih]
        | false => rw [insTo_skip hk ht hp, insTo_skip hk ht (by rw [← hu, ← hpq]; exact hp), ih]
theorem insTo_back (lo : List Int) (P Q : List Bool) (hi : List Int) (m : Nat) (hn : Up hi) : ∀ k, (insTo lo P hi m k).1 = (insTo lo Q hi m k).1 → ∀ j, m ≤ j → j < (insTo lo P hi m k).2 → P.getD j false = Q.getD j false
  | 0, _, j, h1, h2 => by simp only [insTo] at h2; omega
  | k + 1, h, j, h1, h2 => by
    have hu : (insTo lo P hi m k).2 = (insTo lo Q hi m k).2 := by rw [insTo_used, insTo_used]
    cases hk : hi[k]? with
    | none =>
      rw [insTo, insTo, hk] at h
      rw [insTo, hk] at h2
      exact insTo_back lo P Q hi m hn k h j h1 h2
    | some t =>
      by_cases ht : t ∈ lo
      · rw [insTo_in hk ht, insTo_in hk ht] at h
        rw [insTo_in hk ht] at h2
        exact insTo_back lo P Q hi m hn k (List.append_cancel_right h) j h1 h2
      · have no : ∀ R : List Bool, t ∉ (insTo lo R hi m k).1 := fun R hm => by
          obtain ⟨i, hi1, hi2⟩ := insTo_sub hm
          have := up_get hn hi1 hi2 hk
          omega
        have e : (insTo lo P hi m (k + 1)).2 = (insTo lo P hi m k).2 + 1 := by
          cases hp : P.getD (insTo lo P hi m k).2 false with
          | true => rw [insTo_pick hk ht hp]
          | false => rw [insTo_skip hk ht hp]
        have key : (insTo lo P hi m k).1 = (insTo lo Q hi m k).1 ∧ P.getD (insTo lo P hi m k).2 false = Q.getD (insTo lo P hi m k).2 false := by
          cases hp : P.getD (insTo lo P hi m k).2 false with
          | true =>
            cases hq : Q.getD (insTo lo Q hi m k).2 false with
            | true =>
              rw [insTo_pick hk ht hp, insTo_pick hk ht hq] at h
              exact ⟨List.append_cancel_right h, by rw [hu, hq]⟩
            | false =>
              rw [insTo_pick hk ht hp, insTo_skip hk ht hq] at h
              exact absurd (by rw [← h]; simp) (no Q)
          | false =>
            cases hq : Q.getD (insTo lo Q hi m k).2 false with
            | true =>
              rw [insTo_skip hk ht hp, insTo_pick hk ht hq] at h
              exact absurd (by rw [h]; simp) (no P)
            | false =>
              rw [insTo_skip hk ht hp, insTo_skip hk ht hq] at h
              exact ⟨h, by rw [hu, hq]⟩
        rw [e] at h2
        by_cases hj : j = (insTo lo P hi m k).2
        · rw [hj]; exact key.2
        · exact insTo_back lo P Q hi m hn k key.1 j h1 (by omega)
end Go.Proofs.Ytbddpjofhddilaa
