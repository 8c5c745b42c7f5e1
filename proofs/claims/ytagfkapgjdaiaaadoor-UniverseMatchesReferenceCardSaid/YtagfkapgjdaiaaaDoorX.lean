/- Digits of ranks: a rank's tuple has that rank, and ranks order tuples as their digits do. -/
import Derived.Test.YtagfkapgjdaiaaaDoorE
namespace Go.Proofs.YtagfkapgjdaiaaaDoor
open Go.RowKit

def dig (N : Nat) : Nat → Nat → List Nat
  | 0, _ => []
  | k + 1, r => dig N k (r / N) ++ [r % N]
theorem dig_length (N : Nat) : ∀ k r, (dig N k r).length = k
  | 0, _ => rfl
  | k + 1, r => by simp [dig, dig_length N k]
theorem dig_lt {N : Nat} (hN : 1 ≤ N) : ∀ k r, ∀ d ∈ dig N k r, d < N
  | 0, _, d, hd => by simp [dig] at hd
  | k + 1, r, d, hd => by
    simp only [dig, List.mem_append, List.mem_singleton] at hd
    rcases hd with hd | rfl
    · exact dig_lt hN k _ d hd
    · exact Nat.mod_lt _ hN
theorem num_dig {N : Nat} (hN : 1 ≤ N) : ∀ k r, r < N ^ k → num N (dig N k r) = r
  | 0, r, h => by simp at h; subst h; rfl
  | k + 1, r, h => by
    have h1 : r / N < N ^ k := by rw [Nat.div_lt_iff_lt_mul hN, ← Nat.pow_succ]; exact h
    rw [dig, num_snoc, num_dig hN k _ h1, Nat.mul_comm]
    exact Nat.div_add_mod r N
theorem dig_num {N : Nat} : ∀ k (ds : List Nat), ds.length = k → (∀ d ∈ ds, d < N) → dig N k (num N ds) = ds
  | 0, ds, h, _ => by rw [List.eq_nil_of_length_eq_zero h]; rfl
  | k + 1, ds, h, hd => by
    obtain ⟨es, e, rfl⟩ : ∃ es e, ds = es ++ [e] := ⟨ds.dropLast, ds.getLast (by intro h0; rw [h0] at h; cases h), (List.dropLast_concat_getLast _).symm⟩
    have he : e < N := hd e (by simp)
    have hl : es.length = k := by simp at h; exact h
    have hes : ∀ d ∈ es, d < N := fun d hd' => hd d (by simp [hd'])
    have hpos : 0 < N := by omega
    rw [dig, num_snoc]
    have h1 : (num N es * N + e) / N = num N es := by rw [Nat.mul_comm, Nat.mul_add_div hpos, Nat.div_eq_of_lt he, Nat.add_zero]
    have h2 : (num N es * N + e) % N = e := by rw [Nat.mul_comm, Nat.mul_add_mod, Nat.mod_eq_of_lt he]
    rw [h1, h2, dig_num k es hl hes]
theorem tupTo_dig (N : Nat) : ∀ k (r : Nat), tupTo (N : Int) k (r : Int) = (dig N k r).map Int.ofNat
  | 0, _ => rfl
  | k + 1, r => by
    have h1 : (r : Int).tdiv (N : Int) = ((r / N : Nat) : Int) := (Int.ofNat_tdiv r N).symm
    have h2 : (r : Int).tmod (N : Int) = ((r % N : Nat) : Int) := (Int.ofNat_tmod r N).symm
    rw [tupTo, h1, h2, tupTo_dig N k, dig, List.map_append]
    rfl
theorem leftTo_nat (N : Nat) : ∀ k (r : Nat), leftTo (N : Int) k (r : Int) = ((r / N ^ k : Nat) : Int)
  | 0, r => by simp [leftTo]
  | k + 1, r => by
    have h1 : (r : Int).tdiv (N : Int) = ((r / N : Nat) : Int) := (Int.ofNat_tdiv r N).symm
    rw [leftTo, h1, leftTo_nat N k, Nat.div_div_eq_div_mul, Nat.pow_succ, Nat.mul_comm]
/-- The tuple of a rank. -/
theorem tupI_in {N k r : Nat} (hk : k ≤ 3) (hN : 1 ≤ N ∨ k = 0) (hr : r < N ^ k) : tupI N (k : Int) (r : Int) = (dig N k r).map Int.ofNat := by
  unfold tupI
  rw [if_neg (by omega), if_neg, Int.toNat_natCast, tupTo_dig]
  rw [Int.toNat_natCast, leftTo_nat, Nat.div_eq_of_lt hr]
  omega
theorem tupI_out {N k r : Nat} (hr : N ^ k ≤ r) : tupI N (k : Int) (r : Int) = [] := by
  unfold tupI
  by_cases h : (k : Int) < 0 ∨ 3 < (k : Int) ∨ (0 < (k : Int) ∧ N < 1)
  · rw [if_pos h]
  · rw [if_neg h, if_pos]
    right
    rw [Int.toNat_natCast, leftTo_nat]
    have hp : 0 < N ^ k := by
      by_cases h0 : k = 0
      · subst h0; simp
      · exact Nat.pow_pos (by omega)
    have := Nat.div_pos hr hp
    omega
theorem tupI_neg {N : Nat} {k r : Int} (hr : r < 0) : tupI N k r = [] := by
  unfold tupI
  by_cases h : k < 0 ∨ 3 < k ∨ (0 < k ∧ N < 1)
  · rw [if_pos h]
  · rw [if_neg h, if_pos (.inl hr)]
theorem rankI_in {N : Nat} {ds : List Nat} (hl : ds.length ≤ 3) (hd : ∀ d ∈ ds, d < N) : rankI N (ds.map Int.ofNat) = (num N ds : Nat) := by
  unfold rankI
  rw [if_neg (by simp; omega), if_pos]
  · rw [List.map_map, show (Int.toNat ∘ Int.ofNat) = id from rfl, List.map_id]
  · rw [List.all_eq_true]
    intro x hx
    obtain ⟨d, hd', rfl⟩ := List.mem_map.1 hx
    have := hd d hd'
    simp [inside]; omega

/-- Where the greater number's digits part from the smaller one's, they are greater. -/
theorem num_lex (N : Nat) : ∀ k (ds es : List Nat), ds.length = k → es.length = k → (∀ d ∈ ds, d < N) → (∀ e ∈ es, e < N) → num N ds < num N es →
    ∀ i x y, ds[i]? = some x → es[i]? = some y → ds.take i = es.take i → x ≠ y → x < y := by
  intro k
  induction k with
  | zero =>
    intro ds es h1 h2 _ _ _ i x y hx _ _ _
    rw [List.eq_nil_of_length_eq_zero h1] at hx; simp at hx
  | succ k ih =>
    intro ds es h1 h2 hd he hlt i x y hx hy ht hne
    obtain ⟨ds', d, rfl⟩ : ∃ es e, ds = es ++ [e] := ⟨ds.dropLast, ds.getLast (by intro h0; rw [h0] at h1; cases h1), (List.dropLast_concat_getLast _).symm⟩
    obtain ⟨es', e, rfl⟩ : ∃ ds e, es = ds ++ [e] := ⟨es.dropLast, es.getLast (by intro h0; rw [h0] at h2; cases h2), (List.dropLast_concat_getLast _).symm⟩
    have l1 : ds'.length = k := by simpa using h1
    have l2 : es'.length = k := by simpa using h2
    rw [num_snoc, num_snoc] at hlt
    by_cases hi : i < k
    · rw [List.getElem?_append_left (by omega)] at hx hy
      rw [List.take_append_of_le_length (by omega), List.take_append_of_le_length (by omega)] at ht
      refine ih ds' es' l1 l2 (fun d h => hd d (by simp [h])) (fun d h => he d (by simp [h])) ?_ i x y hx hy ht hne
      have hdn := hd d (by simp)
      have hen := he e (by simp)
      rcases Nat.lt_trichotomy (num N ds') (num N es') with h | h | h
      · exact h
      · exfalso
        have h3 := dig_num (N := N) k ds' l1 (fun d h => hd d (by simp [h]))
        have h4 := dig_num (N := N) k es' l2 (fun d h => he d (by simp [h]))
        rw [h, h4] at h3
        rw [h3] at hy
        rw [hy] at hx; injection hx with hx; exact hne hx.symm
      · exfalso
        have h3 : (num N es' + 1) * N ≤ num N ds' * N := Nat.mul_le_mul_right _ h
        rw [Nat.add_mul] at h3
        omega
    · have hik : i = k := by
        have := (List.getElem?_eq_some_iff.1 hx).1
        simp at this; omega
      subst hik
      rw [List.getElem?_append_right (by omega), l1, Nat.sub_self] at hx
      rw [List.getElem?_append_right (by omega), l2, Nat.sub_self] at hy
      simp at hx hy
      subst hx; subst hy
      rw [List.take_append_of_le_length (by omega), List.take_append_of_le_length (by omega), List.take_of_length_le (by omega), List.take_of_length_le (by omega)] at ht
      subst ht
      omega
end Go.Proofs.YtagfkapgjdaiaaaDoor
