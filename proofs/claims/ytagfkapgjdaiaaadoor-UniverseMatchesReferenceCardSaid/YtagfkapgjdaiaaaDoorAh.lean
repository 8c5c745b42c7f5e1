/- The ranks of all tuples over given sorts: how many, in what order, and whose. -/
import Derived.Test.YtagfkapgjdaiaaaDoorT
import Derived.Test.YtagfkapgjdaiaaaDoorX
namespace Go.Proofs.YtagfkapgjdaiaaaDoor
open Go.RowKit

def prodFrom (zs : List Nat) : Nat → List Nat → Nat
  | p, [] => p
  | p, s :: ss => prodFrom zs (p * zs.getD s 0) ss
theorem prodFrom_snoc (zs : List Nat) : ∀ (ss : List Nat) (p s : Nat), prodFrom zs p (ss ++ [s]) = prodFrom zs p ss * zs.getD s 0
  | [], p, s => rfl
  | a :: ss, p, s => by simp only [List.cons_append, prodFrom]; exact prodFrom_snoc zs ss _ s
theorem prodFrom_mul (zs : List Nat) : ∀ (ss : List Nat) (p q : Nat), prodFrom zs (p * q) ss = p * prodFrom zs q ss
  | [], p, q => rfl
  | s :: ss, p, q => by simp only [prodFrom]; rw [Nat.mul_assoc, prodFrom_mul zs ss p]
theorem prodFrom_le {zs : List Nat} (hz : ∀ z ∈ zs, z ≤ 5) : ∀ (ss : List Nat) (p : Nat), prodFrom zs p ss ≤ p * 5 ^ ss.length
  | [], p => by simp [prodFrom]
  | s :: ss, p => by
    have h5 : zs.getD s 0 ≤ 5 := by
      rw [List.getD_eq_getElem?_getD]
      cases h : zs[s]? with
      | none => simp
      | some z => exact hz z (List.mem_of_getElem? h)
    have h1 := prodFrom_le hz ss (p * zs.getD s 0)
    have h2 : p * zs.getD s 0 * 5 ^ ss.length ≤ p * 5 * 5 ^ ss.length := Nat.mul_le_mul_right _ (Nat.mul_le_mul_left _ h5)
    simp only [prodFrom, List.length_cons, Nat.pow_succ]
    rw [Nat.mul_comm (5 ^ ss.length) 5, ← Nat.mul_assoc]
    omega
theorem digs_count (zs : List Nat) : ∀ (ss : List Nat) (x : Nat), (digs zs x ss).length = prodFrom zs 1 ss
  | [], x => rfl
  | s :: ss, x => by
    have h1 : ∀ m, ((List.range m).flatMap fun i => digs zs (x * sum zs + (sum (zs.take s) + i)) ss).length = m * prodFrom zs 1 ss := by
      intro m
      induction m with
      | zero => simp
      | succ m ih =>
        rw [List.range_succ, List.flatMap_append, List.length_append, ih, Nat.add_mul]
        simp only [List.flatMap_cons, List.flatMap_nil, List.append_nil, digs_count zs ss, Nat.one_mul]
    simp only [digs, h1, prodFrom, Nat.one_mul]
    rw [show zs.getD s 0 = zs.getD s 0 * 1 by omega, prodFrom_mul, Nat.mul_one]

/-- The atoms ds have the sorts ss. -/
def OfSorts (zs : List Nat) (ds ss : List Nat) : Prop := ds.length = ss.length ∧ ∀ (j d s : Nat), ds[j]? = some d → ss[j]? = some s → sum (zs.take s) ≤ d ∧ d < sum (zs.take (s + 1))
theorem sum_take_le (l : List Nat) (i : Nat) : sum (l.take i) ≤ sum l := by
  induction l generalizing i with
  | nil => simp [sum]
  | cons a l ih =>
    cases i with
    | zero => simp [sum]
    | succ i => simp only [List.take_succ_cons, sum]; have := ih i; omega
theorem digs_of {zs : List Nat} : ∀ (ss : List Nat) (x r : Nat), r ∈ digs zs x ss → ∃ ds, OfSorts zs ds ss ∧ r = ds.foldl (fun v d => v * sum zs + d) x
  | [], x, r, h => by
    simp only [digs, List.mem_singleton] at h
    subst h
    exact ⟨[], ⟨rfl, fun j d s hd => by simp at hd⟩, rfl⟩
  | s :: ss, x, r, h => by
    simp only [digs, List.mem_flatMap, List.mem_range] at h
    obtain ⟨i, hi, hr⟩ := h
    obtain ⟨ds, ⟨hl, hs⟩, hd⟩ := digs_of ss _ r hr
    refine ⟨(sum (zs.take s) + i) :: ds, ⟨by simp [hl], fun j d t hj ht => ?_⟩, by simp only [List.foldl_cons]; exact hd⟩
    cases j with
    | zero =>
      simp at hj ht
      subst hj; subst ht
      cases hz : zs[s]? with
      | none => rw [List.getD_eq_getElem?_getD, hz] at hi; simp at hi
      | some z =>
        rw [List.getD_eq_getElem?_getD, hz] at hi
        simp at hi
        have h1 : sum (zs.take (s + 1)) = sum (zs.take s) + z := by rw [List.take_add_one, hz, Option.toList_some, sum_snoc]
        omega
    | succ j => exact hs j d t (by simpa using hj) (by simpa using ht)
theorem OfSorts.lt {zs ds ss : List Nat} (h : OfSorts zs ds ss) : ∀ d ∈ ds, d < sum zs := fun d hd => by
  obtain ⟨j, hj⟩ := List.mem_iff_getElem?.1 hd
  have hlt := (List.getElem?_eq_some_iff.1 hj).1
  have h1 := h.2 j d _ hj (List.getElem?_eq_getElem (by rw [← h.1]; exact hlt))
  have h2 := sum_take_le zs (ss[j]'(by rw [← h.1]; exact hlt) + 1)
  omega
/-- A rank among them is the rank of atoms of those sorts. -/
theorem digs_tuple {zs ss : List Nat} {r : Nat} (h : r ∈ digs zs 0 ss) : OfSorts zs (dig (sum zs) ss.length r) ss ∧ r < sum zs ^ ss.length := by
  obtain ⟨ds, hs, hr⟩ := digs_of ss 0 r h
  have hn : num (sum zs) ds = r := hr.symm
  rw [← hn, dig_num _ ds hs.1 hs.lt]
  exact ⟨hs, num_lt _ _ ds hs.1 hs.lt⟩
theorem fold_bounds {N : Nat} : ∀ (ds : List Nat) (x : Nat), (∀ d ∈ ds, d < N) → x * N ^ ds.length ≤ ds.foldl (fun v d => v * N + d) x ∧ ds.foldl (fun v d => v * N + d) x < (x + 1) * N ^ ds.length
  | [], x, _ => by simp
  | d :: ds, x, h => by
    have hd := h d (by simp)
    have ih := fold_bounds ds (x * N + d) (fun e he => h e (by simp [he]))
    simp only [List.foldl_cons, List.length_cons, Nat.pow_succ]
    have h1 : x * N * N ^ ds.length ≤ (x * N + d) * N ^ ds.length := Nat.mul_le_mul_right _ (by omega)
    have h2 : (x * N + d + 1) * N ^ ds.length ≤ ((x + 1) * N) * N ^ ds.length := Nat.mul_le_mul_right _ (by rw [Nat.add_mul]; omega)
    rw [Nat.mul_comm (N ^ ds.length) N, ← Nat.mul_assoc, ← Nat.mul_assoc]
    omega
theorem digs_bounds {zs ss : List Nat} {x r : Nat} (h : r ∈ digs zs x ss) : x * sum zs ^ ss.length ≤ r ∧ r < (x + 1) * sum zs ^ ss.length := by
  obtain ⟨ds, hs, hr⟩ := digs_of ss x r h
  have := fold_bounds ds x hs.lt
  rw [hs.1] at this
  rw [hr]; exact this
theorem digs_sorted {zs : List Nat} : ∀ (ss : List Nat) (x : Nat), (digs zs x ss).Pairwise (· < ·)
  | [], x => by simp [digs]
  | s :: ss, x => by
    have h1 : ∀ m, ((List.range m).flatMap fun i => digs zs (x * sum zs + (sum (zs.take s) + i)) ss).Pairwise (· < ·) ∧
        ∀ r ∈ ((List.range m).flatMap fun i => digs zs (x * sum zs + (sum (zs.take s) + i)) ss), r < (x * sum zs + (sum (zs.take s) + m)) * sum zs ^ ss.length := by
      intro m
      induction m with
      | zero => simp
      | succ m ih =>
        rw [List.range_succ, List.flatMap_append]
        simp only [List.flatMap_cons, List.flatMap_nil, List.append_nil]
        refine ⟨List.pairwise_append.2 ⟨ih.1, digs_sorted ss _, fun a ha b hb => ?_⟩, fun r hr => ?_⟩
        · exact Nat.lt_of_lt_of_le (ih.2 a ha) (digs_bounds hb).1
        · rcases List.mem_append.1 hr with hr | hr
          · exact Nat.lt_of_lt_of_le (ih.2 r hr) (Nat.mul_le_mul_right _ (by omega))
          · have := (digs_bounds hr).2
            rwa [show x * sum zs + (sum (zs.take s) + m) + 1 = x * sum zs + (sum (zs.take s) + (m + 1)) by omega] at this
    exact (h1 _).1
theorem digs_lt {zs ss : List Nat} {i j a b : Nat} (hij : i < j) (ha : (digs zs 0 ss)[i]? = some a) (hb : (digs zs 0 ss)[j]? = some b) : a < b := by
  have h := digs_sorted (zs := zs) ss 0
  obtain ⟨hi, rfl⟩ := List.getElem?_eq_some_iff.1 ha
  obtain ⟨hj, rfl⟩ := List.getElem?_eq_some_iff.1 hb
  exact List.pairwise_iff_getElem.1 h i j hi hj hij
end Go.Proofs.YtagfkapgjdaiaaaDoor
