/- Common texts of the laws of stage 9, joined: UX UAh UAm UAo UAp UAq UAr UAs. -/
import Derived.Test.YtbddpjofhddilaaN01
import Derived.Test.YtbddpjofhddilaaN02
import Derived.Deep.RegionHeld3
/- Digits of ranks: a rank's tuple has that rank, and ranks order tuples as their digits do. -/
namespace Go.Proofs.Ytbddpjofhddilaa
open Go.RowKit

def dig (N : Nat) : Nat → Nat → List Nat
  | 0, _ => []
  | k + 1, r => dig N k (r / N) ++ [r % N]
theorem dig_length (N : Nat) : ∀ k r, (dig N k r).length = k
  | 0, _ => rfl
  | k + 1, r => by simp [dig, dig_length N k]
theorem dig_lt {N : Nat} (hN : 1 ≤ N) : ∀ k r, ∀ d ∈ dig N k r, d < N
  | 0, _, d, hd => by simp [dig] at hd
  | k + 1, r, d, hd => by
    simp only [dig, List.mem_append, List.mem_singleton] at hd
    rcases hd with hd | rfl
    · exact dig_lt hN k _ d hd
    · exact Nat.mod_lt _ hN
theorem num_dig {N : Nat} (hN : 1 ≤ N) : ∀ k r, r < N ^ k → num N (dig N k r) = r
  | 0, r, h => by simp at h; subst h; rfl
  | k + 1, r, h => by
    have h1 : r / N < N ^ k := by rw [Nat.div_lt_iff_lt_mul hN, ← Nat.pow_succ]; exact h
    rw [dig, num_snoc, num_dig hN k _ h1, Nat.mul_comm]
    exact Nat.div_add_mod r N
theorem dig_num {N : Nat} : ∀ k (ds : List Nat), ds.length = k → (∀ d ∈ ds, d < N) → dig N k (num N ds) = ds
  | 0, ds, h, _ => by rw [List.eq_nil_of_length_eq_zero h]; rfl
  | k + 1, ds, h, hd => by
    obtain ⟨es, e, rfl⟩ : ∃ es e, ds = es ++ [e] := ⟨ds.dropLast, ds.getLast (by intro h0; rw [h0] at h; cases h), (List.dropLast_concat_getLast _).symm⟩
    have he : e < N := hd e (by simp)
    have hl : es.length = k := by simp at h; exact h
    have hes : ∀ d ∈ es, d < N := fun d hd' => hd d (by simp [hd'])
    have hpos : 0 < N := by omega
    rw [dig, num_snoc]
    have h1 : (num N es * N + e) / N = num N es := by rw [Nat.mul_comm, Nat.mul_add_div hpos, Nat.div_eq_of_lt he, Nat.add_zero]
    have h2 : (num N es * N + e) % N = e := by rw [Nat.mul_comm, Nat.mul_add_mod, Nat.mod_eq_of_lt he]
    rw [h1, h2, dig_num k es hl hes]
theorem tupTo_dig (N : Nat) : ∀ k (r : Nat), tupTo (N : Int) k (r : Int) = (dig N k r).map Int.ofNat
  | 0, _ => rfl
  | k + 1, r => by
    have h1 : (r : Int).tdiv (N : Int) = ((r / N : Nat) : Int) := (Int.ofNat_tdiv r N).symm
    have h2 : (r : Int).tmod (N : Int) = ((r % N : Nat) : Int) := (Int.ofNat_tmod r N).symm
    rw [tupTo, h1, h2, tupTo_dig N k, dig, List.map_append]
    rfl
theorem leftTo_nat (N : Nat) : ∀ k (r : Nat), leftTo (N : Int) k (r : Int) = ((r / N ^ k : Nat) : Int)
  | 0, r => by simp [leftTo]
  | k + 1, r => by
    have h1 : (r : Int).tdiv (N : Int) = ((r / N : Nat) : Int) := (Int.ofNat_tdiv r N).symm
    rw [leftTo, h1, leftTo_nat N k, Nat.div_div_eq_div_mul, Nat.pow_succ, Nat.mul_comm]
/-- The tuple of a rank. -/
theorem tupI_in {N k r : Nat} (hk : k ≤ 3) (hN : 1 ≤ N ∨ k = 0) (hr : r < N ^ k) : tupI N (k : Int) (r : Int) = (dig N k r).map Int.ofNat := by
  unfold tupI
  rw [if_neg (by omega), if_neg, Int.toNat_natCast, tupTo_dig]
  rw [Int.toNat_natCast, leftTo_nat, Nat.div_eq_of_lt hr]
  omega
theorem tupI_out {N k r : Nat} (hr : N ^ k ≤ r) : tupI N (k : Int) (r : Int) = [] := by
  unfold tupI
  by_cases h : (k : Int) < 0 ∨ 3 < (k : Int) ∨ (0 < (k : Int) ∧ N < 1)
  · rw [if_pos h]
  · rw [if_neg h, if_pos]
    right
    rw [Int.toNat_natCast, leftTo_nat]
    have hp : 0 < N ^ k := by
      by_cases h0 : k = 0
      · subst h0; simp
      · exact Nat.pow_pos (by omega)
    have := Nat.div_pos hr hp
    omega
theorem tupI_neg {N : Nat} {k r : Int} (hr : r < 0) : tupI N k r = [] := by
  unfold tupI
  by_cases h : k < 0 ∨ 3 < k ∨ (0 < k ∧ N < 1)
  · rw [if_pos h]
  · rw [if_neg h, if_pos (.inl hr)]
theorem rankI_in {N : Nat} {ds : List Nat} (hl : ds.length ≤ 3) (hd : ∀ d ∈ ds, d < N) : rankI N (ds.map Int.ofNat) = (num N ds : Nat) := by
  unfold rankI
  rw [if_neg (by simp; omega), if_pos]
  · rw [List.map_map, show (Int.toNat ∘ Int.ofNat) = id from rfl, List.map_id]
  · rw [List.all_eq_true]
    intro x hx
    obtain ⟨d, hd', rfl⟩ := List.mem_map.1 hx
    have := hd d hd'
    simp [inside]; omega

/-- Where the greater number's digits part from the smaller one's, they are greater. -/
theorem num_lex (N : Nat) : ∀ k (ds es : List Nat), ds.length = k → es.length = k → (∀ d ∈ ds, d < N) → (∀ e ∈ es, e < N) → num N ds < num N es →
    ∀ i x y, ds[i]? = some x → es[i]? = some y → ds.take i = es.take i → x ≠ y → x < y := by
  intro k
  induction k with
  | zero =>
    intro ds es h1 h2 _ _ _ i x y hx _ _ _
    rw [List.eq_nil_of_length_eq_zero h1] at hx; simp at hx
  | succ k ih =>
    intro ds es h1 h2 hd he hlt i x y hx hy ht hne
    obtain ⟨ds', d, rfl⟩ : ∃ es e, ds = es ++ [e] := ⟨ds.dropLast, ds.getLast (by intro h0; rw [h0] at h1; cases h1), (List.dropLast_concat_getLast _).symm⟩
    obtain ⟨es', e, rfl⟩ : ∃ ds e, es = ds ++ [e] := ⟨es.dropLast, es.getLast (by intro h0; rw [h0] at h2; cases h2), (List.dropLast_concat_getLast _).symm⟩
    have l1 : ds'.length = k := by simpa using h1
    have l2 : es'.length = k := by simpa using h2
    rw [num_snoc, num_snoc] at hlt
    by_cases hi : i < k
    · rw [List.getElem?_append_left (by omega)] at hx hy
      rw [List.take_append_of_le_length (by omega), List.take_append_of_le_length (by omega)] at ht
      refine ih ds' es' l1 l2 (fun d h => hd d (by simp [h])) (fun d h => he d (by simp [h])) ?_ i x y hx hy ht hne
      have hdn := hd d (by simp)
      have hen := he e (by simp)
      rcases Nat.lt_trichotomy (num N ds') (num N es') with h | h | h
      · exact h
      · exfalso
        have h3 := dig_num (N := N) k ds' l1 (fun d h => hd d (by simp [h]))
        have h4 := dig_num (N := N) k es' l2 (fun d h => he d (by simp [h]))
        rw [h, h4] at h3
        rw [h3] at hy
        rw [hy] at hx; injection hx with hx; exact hne hx.symm
      · exfalso
        have h3 : (num N es' + 1) * N ≤ num N ds' * N := Nat.mul_le_mul_right _ h
        rw [Nat.add_mul] at h3
        omega
    · have hik : i = k := by
        have := (List.getElem?_eq_some_iff.1 hx).1
        simp at this; omega
      subst hik
      rw [List.getElem?_append_right (by omega), l1, Nat.sub_self] at hx
      rw [List.getElem?_append_right (by omega), l2, Nat.sub_self] at hy
      simp at hx hy
      subst hx; subst hy
      rw [List.take_append_of_le_length (by omega), List.take_append_of_le_length (by omega), List.take_of_length_le (by omega), List.take_of_length_le (by omega)] at ht
      subst ht
      omega
end Go.Proofs.Ytbddpjofhddilaa
/- The ranks of all tuples over given sorts: how many, in what order, and whose. -/
namespace Go.Proofs.Ytbddpjofhddilaa
open Go.RowKit

def prodFrom (zs : List Nat) : Nat → List Nat → Nat
  | p, [] => p
  | p, s :: ss => prodFrom zs (p * zs.getD s 0) ss
theorem prodFrom_snoc (zs : List Nat) : ∀ (ss : List Nat) (p s : Nat), prodFrom zs p (ss ++ [s]) = prodFrom zs p ss * zs.getD s 0
  | [], p, s => rfl
  | a :: ss, p, s => by simp only [List.cons_append, prodFrom]; exact prodFrom_snoc zs ss _ s
theorem prodFrom_mul (zs : List Nat) : ∀ (ss : List Nat) (p q : Nat), prodFrom zs (p * q) ss = p * prodFrom zs q ss
  | [], p, q => rfl
  | s :: ss, p, q => by simp only [prodFrom]; rw [Nat.mul_assoc, prodFrom_mul zs ss p]
theorem prodFrom_le {zs : List Nat} (hz : ∀ z ∈ zs, z ≤ 5) : ∀ (ss : List Nat) (p : Nat), prodFrom zs p ss ≤ p * 5 ^ ss.length
  | [], p => by simp [prodFrom]
  | s :: ss, p => by
    have h5 : zs.getD s 0 ≤ 5 := by
      rw [List.getD_eq_getElem?_getD]
      cases h : zs[s]? with
      | none => simp
      | some z => exact hz z (List.mem_of_getElem? h)
    have h1 := prodFrom_le hz ss (p * zs.getD s 0)
    have h2 : p * zs.getD s 0 * 5 ^ ss.length ≤ p * 5 * 5 ^ ss.length := Nat.mul_le_mul_right _ (Nat.mul_le_mul_left _ h5)
    simp only [prodFrom, List.length_cons, Nat.pow_succ]
    rw [Nat.mul_comm (5 ^ ss.length) 5, ← Nat.mul_assoc]
    omega
theorem digs_count (zs : List Nat) : ∀ (ss : List Nat) (x : Nat), (digs zs x ss).length = prodFrom zs 1 ss
  | [], x => rfl
  | s :: ss, x => by
    have h1 : ∀ m, ((List.range m).flatMap fun i => digs zs (x * sum zs + (sum (zs.take s) + i)) ss).length = m * prodFrom zs 1 ss := by
      intro m
      induction m with
      | zero => simp
      | succ m ih =>
        rw [List.range_succ, List.flatMap_append, List.length_append, ih, Nat.add_mul]
        simp only [List.flatMap_cons, List.flatMap_nil, List.append_nil, digs_count zs ss, Nat.one_mul]
    simp only [digs, h1, prodFrom, Nat.one_mul]
    rw [show zs.getD s 0 = zs.getD s 0 * 1 by omega, prodFrom_mul, Nat.mul_one]

/-- The atoms ds have the sorts ss. -/
def OfSorts (zs : List Nat) (ds ss : List Nat) : Prop := ds.length = ss.length ∧ ∀ (j d s : Nat), ds[j]? = some d → ss[j]? = some s → sum (zs.take s) ≤ d ∧ d < sum (zs.take (s + 1))
theorem sum_take_le (l : List Nat) (i : Nat) : sum (l.take i) ≤ sum l := by
  induction l generalizing i with
  | nil => simp [sum]
  | cons a l ih =>
    cases i with
    | zero => simp [sum]
    | succ i => simp only [List.take_succ_cons, sum]; have := ih i; omega
theorem digs_of {zs : List Nat} : ∀ (ss : List Nat) (x r : Nat), r ∈ digs zs x ss → ∃ ds, OfSorts zs ds ss ∧ r = ds.foldl (fun v d => v * sum zs + d) x
  | [], x, r, h => by
    simp only [digs, List.mem_singleton] at h
    subst h
    exact ⟨[], ⟨rfl, fun j d s hd => by simp at hd⟩, rfl⟩
  | s :: ss, x, r, h => by
    simp only [digs, List.mem_flatMap, List.mem_range] at h
    obtain ⟨i, hi, hr⟩ := h
    obtain ⟨ds, ⟨hl, hs⟩, hd⟩ := digs_of ss _ r hr
    refine ⟨(sum (zs.take s) + i) :: ds, ⟨by simp [hl], fun j d t hj ht => ?_⟩, by simp only [List.foldl_cons]; exact hd⟩
    cases j with
    | zero =>
      simp at hj ht
      subst hj; subst ht
      cases hz : zs[s]? with
      | none => rw [List.getD_eq_getElem?_getD, hz] at hi; simp at hi
      | some z =>
        rw [List.getD_eq_getElem?_getD, hz] at hi
        simp at hi
        have h1 : sum (zs.take (s + 1)) = sum (zs.take s) + z := by rw [List.take_add_one, hz, Option.toList_some, sum_snoc]
        omega
    | succ j => exact hs j d t (by simpa using hj) (by simpa using ht)
theorem OfSorts.lt {zs ds ss : List Nat} (h : OfSorts zs ds ss) : ∀ d ∈ ds, d < sum zs := fun d hd => by
  obtain ⟨j, hj⟩ := List.mem_iff_getElem?.1 hd
  have hlt := (List.getElem?_eq_some_iff.1 hj).1
  have h1 := h.2 j d _ hj (List.getElem?_eq_getElem (by rw [← h.1]; exact hlt))
  have h2 := sum_take_le zs (ss[j]'(by rw [← h.1]; exact hlt) + 1)
  omega
/-- A rank among them is the rank of atoms of those sorts. -/
theorem digs_tuple {zs ss : List Nat} {r : Nat} (h : r ∈ digs zs 0 ss) : OfSorts zs (dig (sum zs) ss.length r) ss ∧ r < sum zs ^ ss.length := by
  obtain ⟨ds, hs, hr⟩ := digs_of ss 0 r h
  have hn : num (sum zs) ds = r := hr.symm
  rw [← hn, dig_num _ ds hs.1 hs.lt]
  exact ⟨hs, num_lt _ _ ds hs.1 hs.lt⟩
theorem fold_bounds {N : Nat} : ∀ (ds : List Nat) (x : Nat), (∀ d ∈ ds, d < N) → x * N ^ ds.length ≤ ds.foldl (fun v d => v * N + d) x ∧ ds.foldl (fun v d => v * N + d) x < (x + 1) * N ^ ds.length
  | [], x, _ => by simp
  | d :: ds, x, h => by
    have hd := h d (by simp)
    have ih := fold_bounds ds (x * N + d) (fun e he => h e (by simp [he]))
    simp only [List.foldl_cons, List.length_cons, Nat.pow_succ]
    have h1 : x * N * N ^ ds.length ≤ (x * N + d) * N ^ ds.length := Nat.mul_le_mul_right _ (by omega)
    have h2 : (x * N + d + 1) * N ^ ds.length ≤ ((x + 1) * N) * N ^ ds.length := Nat.mul_le_mul_right _ (by rw [Nat.add_mul]; omega)
    rw [Nat.mul_comm (N ^ ds.length) N, ← Nat.mul_assoc, ← Nat.mul_assoc]
    omega
theorem digs_bounds {zs ss : List Nat} {x r : Nat} (h : r ∈ digs zs x ss) : x * sum zs ^ ss.length ≤ r ∧ r < (x + 1) * sum zs ^ ss.length := by
  obtain ⟨ds, hs, hr⟩ := digs_of ss x r h
  have := fold_bounds ds x hs.lt
  rw [hs.1] at this
  rw [hr]; exact this
theorem digs_sorted {zs : List Nat} : ∀ (ss : List Nat) (x : Nat), (digs zs x ss).Pairwise (· < ·)
  | [], x => by simp [digs]
  | s :: ss, x => by
    have h1 : ∀ m, ((List.range m).flatMap fun i => digs zs (x * sum zs + (sum (zs.take s) + i)) ss).Pairwise (· < ·) ∧
        ∀ r ∈ ((List.range m).flatMap fun i => digs zs (x * sum zs + (sum (zs.take s) + i)) ss), r < (x * sum zs + (sum (zs.take s) + m)) * sum zs ^ ss.length := by
      intro m
      induction m with
      | zero => simp
      | succ m ih =>
        rw [List.range_succ, List.flatMap_append]
        simp only [List.flatMap_cons, List.flatMap_nil, List.append_nil]
        refine ⟨List.pairwise_append.2 ⟨ih.1, digs_sorted ss _, fun a ha b hb => ?_⟩, fun r hr => ?_⟩
        · exact Nat.lt_of_lt_of_le (ih.2 a ha) (digs_bounds hb).1
        · rcases List.mem_append.1 hr with hr | hr
          · exact Nat.lt_of_lt_of_le (ih.2 r hr) (Nat.mul_le_mul_right _ (by omega))
          · have := (digs_bounds hr).2
            rwa [show x * sum zs + (sum (zs.take s) + m) + 1 = x * sum zs + (sum (zs.take s) + (m + 1)) by omega] at this
    exact (h1 _).1
theorem digs_lt {zs ss : List Nat} {i j a b : Nat} (hij : i < j) (ha : (digs zs 0 ss)[i]? = some a) (hb : (digs zs 0 ss)[j]? = some b) : a < b := by
  have h := digs_sorted (zs := zs) ss 0
  obtain ⟨hi, rfl⟩ := List.getElem?_eq_some_iff.1 ha
  obtain ⟨hj, rfl⟩ := List.getElem?_eq_some_iff.1 hb
  exact List.pairwise_iff_getElem.1 h i j hi hj hij
end Go.Proofs.Ytbddpjofhddilaa
/- The reference's First, Atoms, SortOf, Rank and Ranks. -/
namespace Go.Proofs.Ytbddpjofhddilaa
open Go.RowKit

set_option maxHeartbeats 2000000 in
theorem rFirst_calls (zs : List Nat) (a : Option Addr) (c : Nat) (st : Int) (w : World) (h : Nums w a c zs) (hz : ∀ z ∈ zs, z ≤ 5) (hl : zs.length ≤ 4) (m : Nat) (hm : m ≤ zs.length) :
    Calls Try.prog 125 #[.agg #[.slice a zs.length c, .int .i64 st], .int .i64 (m : Int)] w fun e w' => e = .returned (.int .i64 (sum (zs.take m) : Nat)) ∧ w.grownBy w' none := by
  obtain ⟨n, hn⟩ : ∃ n, zs.length = n := ⟨_, rfl⟩
  rw [hn] at hl hm ⊢
  have hg := World.grownBy_alloc w (.cells #[.slice a n c, .int .i64 st] 30) none
  have HH := Lib.hid (And.intro hz (And.intro hn (And.intro (h.grown hg) hg))); clear hz hn h hg
  go_enter Try.func125, Try.ntmps125
  go_wp2_with fail
  obtain ⟨b, hb⟩ : ∃ b, w.heap.size = b := ⟨_, rfl⟩
  have c0 : (w.alloc (.cells #[.slice a n c, .int .i64 st] 30)).cell? ⟨b, 0, none⟩ = some (.slice a n c) := by rw [← hb]; clear hb; go_simp
  obtain ⟨W, hW⟩ : ∃ W, w.alloc (.cells #[.slice a n c, .int .i64 st] 30) = W := ⟨_, rfl⟩
  rw [hW] at HH c0 ⊢
  rw [hb]
  clear hW hb
  go_loopg [5, 6] m (fun gk s5 s6 wr => ∃ i : Nat, s5 = .int .i64 (sum (zs.take i) : Nat) ∧ s6 = .int .i64 (i : Int) ∧ gk = m - i ∧ i ≤ m ∧ wr = W)
  case atStart => exact ⟨0, rfl, rfl, rfl, Nat.zero_le _, rfl⟩
  case round =>
    obtain ⟨i, rfl, rfl, hgi, hi, rfl⟩ := hrel
    have HGI := Lib.hid hgi; clear hgi
    by_cases him : i < m
    · have d1 : decide (i < m) = true := by simpa using him
      have d2 : decide (i < n) = true := by simp; omega
      have hinI : (i : Int) < (n : Int) := by omega
      obtain ⟨z, hz⟩ : ∃ z, zs[i]? = some z := ⟨_, List.getElem?_eq_getElem (by have := HH.out.2.1; omega)⟩
      have hz5 := HH.out.1 z (List.mem_of_getElem? hz)
      obtain ⟨ab, ao, rfl, cz⟩ := HH.out.2.2.1.at hz
      have hs := sum_le (l := zs.take i) (m := 5) (fun y hy => HH.out.1 y (List.mem_of_mem_take hy))
      rw [List.length_take] at hs
      have HSN : Hid (sum (zs.take (i + 1)) = sum (zs.take i) + z) := Lib.hid (by rw [List.take_add_one, hz, Option.toList_some, sum_snoc])
      obtain ⟨S, hS⟩ : ∃ S, sum (zs.take i) = S := ⟨_, rfl⟩
      rw [hS] at hs HSN ⊢
      have hS20 : S ≤ 20 := by omega
      clear hS hs hz
      go_wp2_with fail
      go_roundg (m - (i + 1))
      case measure => rw [HGI.out]; omega
      case rel => exact ⟨i + 1, by rw [HSN.out]; rfl, rfl, rfl, by omega, rfl⟩
    · have hie : i = m := by omega
      subst hie
      have d1 : decide (i < i) = false := by simp
      go_wp2_with fail
      go_ret
      exact ⟨rfl, HH.out.2.2.2⟩

set_option maxHeartbeats 2000000 in
theorem rAtoms_calls (zs : List Nat) (a : Option Addr) (c : Nat) (st : Int) (w : World) (h : Nums w a c zs) (hz : ∀ z ∈ zs, z ≤ 5) (hl : zs.length ≤ 4) :
    Calls Try.prog 100 #[.agg #[.slice a zs.length c, .int .i64 st]] w fun e w' => e = .returned (.int .i64 (sum zs : Nat)) ∧ w.grownBy w' none := by
  have HH := Lib.hid (And.intro h hz); clear h hz
  have HL := Lib.hid hl; clear hl
  go_enter Try.func100, Try.ntmps100
  go_wp2_with fail
  have hg := World.grownBy_alloc w (.cells #[.slice a zs.length c, .int .i64 st] 30) none
  refine (rFirst_calls zs a c st _ (HH.out.1.grown hg) HH.out.2 HL.out zs.length (Nat.le_refl _)).mono ?_
  rintro e w1 ⟨rfl, g1⟩
  rw [List.take_length]
  have HG := Lib.hid (hg.trans g1); clear hg g1
  go_wp2
  go_ret
  exact ⟨rfl, HG.out⟩

theorem sortOf_at (zs : List Nat) (x : Int) : ∀ n i, n + i = zs.length → (sum (zs.take i) : Nat) ≤ x → sortOf zs x n i = if x < (sum (zs.take (i + 1)) : Nat) then (if 0 < n then some i else none) else sortOf zs x (n - 1) (i + 1)
  | 0, i, h, _ => by
    by_cases h1 : x < (sum (zs.take (i + 1)) : Nat)
    · simp [sortOf, h1]
    · simp [sortOf, h1]
  | n + 1, i, h, _ => by simp [sortOf]
set_option maxHeartbeats 2000000 in
theorem rSort_calls (zs : List Nat) (a : Option Addr) (c : Nat) (st x : Int) (w : World) (h : Nums w a c zs) (hz : ∀ z ∈ zs, z ≤ 5) (hl : zs.length ≤ 4) :
    Calls Try.prog 131 #[.agg #[.slice a zs.length c, .int .i64 st], .int .i64 x] w fun e w' => e = .returned (.int .i64 (sortI zs x)) ∧ w.grownBy w' none := by
  have HH := Lib.hid (And.intro h hz); clear h hz
  obtain ⟨n, hn⟩ : ∃ n, zs.length = n := ⟨_, rfl⟩
  rw [hn] at hl ⊢
  have HN := Lib.hid hn; clear hn
  have HG := Lib.hid (World.grownBy_alloc w (.cells #[.slice a n c, .int .i64 st] 30) none)
  go_enter Try.func131, Try.ntmps131
  go_wp2_with fail
  go_loopg [5] n (fun g s5 wr => ∃ (i : Nat), s5 = .int .i64 (i : Int) ∧ g = n - i ∧ i ≤ n ∧ (0 ≤ x → ((sum (zs.take i) : Nat) : Int) ≤ x ∧ sortOf zs x n 0 = sortOf zs x (n - i) i) ∧ (wr.cell? ⟨w.heap.size, 0, none⟩ = some (.slice a n c) ∧ wr.cell? ⟨w.heap.size, 1, none⟩ = some (.int .i64 st)) ∧ w.grownBy wr none)
  case atStart => exact ⟨0, rfl, rfl, Nat.zero_le _, fun h => ⟨by simpa [sum] using h, rfl⟩, ⟨by go_simp, by go_simp⟩, HG.out⟩
  case round =>
    obtain ⟨i, rfl, hgi, hi, hso, ⟨c0, c1⟩, hgr⟩ := hrel
    have HGI := Lib.hid (And.intro hgi hso); clear hgi hso
    have HW := Lib.hid hgr; clear hgr
    have HF := Lib.hid (fun (W : World) (m : Nat) (hm : m ≤ n) (hW : w.grownBy W none) => by
      have hf := rFirst_calls zs a c st W (HH.out.1.grown hW) HH.out.2 (by rw [HN.out]; exact hl) m (by rw [HN.out]; exact hm)
      rw [HN.out] at hf
      exact hf)
    by_cases hin : i < n
    · have hinB : decide (i < n) = true := by simpa using hin
      go_wp2_with fail
      refine (HF.out _ i (by omega) HW.out).mono ?_
      rintro e w1 ⟨rfl, g1⟩
      have hd0 := g1.cell c0 (by simp)
      have hd1 := g1.cell c1 (by simp)
      have HG1 := Lib.hid (HW.out.trans g1); clear g1 c0 c1
      by_cases hlo : ((sum (zs.take i) : Nat) : Int) ≤ x
      · have hx0 : 0 ≤ x := by omega
        have HS := Lib.hid (show sortOf zs x (n - i) i = if x < (sum (zs.take (i + 1)) : Nat) then some i else sortOf zs x (n - (i + 1)) (i + 1) by rw [show n - i = (n - (i + 1)) + 1 by omega]; rfl)
        obtain ⟨S, hS⟩ : ∃ S, sum (zs.take i) = S := ⟨_, rfl⟩
        rw [hS] at hlo ⊢
        have dlo : decide ((S : Int) ≤ x) = true := by simpa using hlo
        clear hS hlo
        go_wp2_with fail
        refine (HF.out _ (i + 1) (by omega) HG1.out).mono ?_
        rintro e w2 ⟨rfl, g2⟩
        have hd0' := g2.cell hd0 (by simp)
        have hd1' := g2.cell hd1 (by simp)
        have HG2 := Lib.hid (HG1.out.trans g2); clear g2 hd0 hd1
        obtain ⟨T, hT⟩ : ∃ T, sum (zs.take (i + 1)) = T := ⟨_, rfl⟩
        rw [hT] at HS ⊢
        have HT := Lib.hid hT; clear hT
        by_cases hxt : x < (T : Int)
        · have dx : decide (x < (T : Int)) = true := by simpa using hxt
          go_wp2_with fail
          go_ret
          refine ⟨?_, HG2.out⟩
          unfold sortI
          rw [if_neg (by omega), HN.out, (HGI.out.2 hx0).2, HS.out, if_pos hxt]
          rfl
        · have dx : decide (x < (T : Int)) = false := by simpa using hxt
          go_wp2_with fail
          go_roundg (n - (i + 1))
          case measure => rw [HGI.out.1]; omega
          case rel => exact ⟨i + 1, rfl, rfl, by omega, fun h0 => ⟨by rw [HT.out]; omega, by rw [(HGI.out.2 h0).2, HS.out, if_neg (by omega)]⟩, ⟨hd0', hd1'⟩, HG2.out⟩
      · have hx0 : x < 0 := by
          rcases Int.lt_or_le x 0 with h | h
          · exact h
          · exact absurd (HGI.out.2 h).1 hlo
        obtain ⟨S, hS⟩ : ∃ S, sum (zs.take i) = S := ⟨_, rfl⟩
        rw [hS] at hlo ⊢
        have dlo : decide ((S : Int) ≤ x) = false := by simpa using hlo
        clear hS hlo
        go_wp2_with fail
        go_roundg (n - (i + 1))
        case measure => rw [HGI.out.1]; omega
        case rel => exact ⟨i + 1, rfl, rfl, by omega, fun h0 => absurd h0 (by omega), ⟨hd0, hd1⟩, HG1.out⟩
    · have hie : i = n := by omega
      subst hie
      have hinB : decide (i < i) = false := by simp
      go_wp2_with fail
      go_ret
      refine ⟨?_, HW.out⟩
      unfold sortI
      by_cases hx : x < 0
      · rw [if_pos hx]; rfl
      · rw [if_neg hx, HN.out, (HGI.out.2 (by omega)).2, Nat.sub_self]; rfl
end Go.Proofs.Ytbddpjofhddilaa
/- The reference's Rank, Ranks and Tuple. -/
namespace Go.Proofs.Ytbddpjofhddilaa
open Go.RowKit

theorem Ints.at {w : World} {a : Option Addr} {c : Nat} {zs : List Int} (h : Ints w a c zs) {i : Nat} {z : Int} (hz : zs[i]? = some z) : ∃ b o, a = some ⟨b, o, none⟩ ∧ w.cell? ⟨b, o + i, none⟩ = some (.int .i64 z) := by
  obtain ⟨_, ⟨h, _⟩ | ⟨b, o, ha, _, hc⟩⟩ := h
  · rw [h] at hz; simp at hz
  · exact ⟨b, o, ha, hc i z hz⟩
theorem pow_le {N K : Nat} (hN : N ≤ 12) (hK : K ≤ 3) : N ^ K ≤ 1728 := by
  have h1 : N ^ K ≤ 12 ^ K := Nat.pow_le_pow_left hN _
  have h2 : 12 ^ K ≤ 12 ^ 3 := Nat.pow_le_pow_right (by omega) hK
  omega

theorem held_next4 {wr W W' : World} {a b c d : Addr} {x y z u : Value} (g : W.grownBy W' none) (h1 : wr.grownBy W none) (h2 : W.cell? a = some x) (h3 : W.cell? b = some y) (h4 : W.cell? c = some z) (h5 : W.cell? d = some u) :
    wr.grownBy W' none ∧ W'.cell? a = some x ∧ W'.cell? b = some y ∧ W'.cell? c = some z ∧ W'.cell? d = some u :=
  ⟨h1.trans g, g.cell h2 (by simp), g.cell h3 (by simp), g.cell h4 (by simp), g.cell h5 (by simp)⟩
theorem inside_lt {N : Nat} {l : List Int} (h : ∀ x ∈ l, inside N x = true) : ∀ d ∈ l.map Int.toNat, d < N := fun d hd => by
  obtain ⟨x, hx, rfl⟩ := List.mem_map.1 hd
  have := h x hx
  simp [inside] at this
  omega
set_option maxRecDepth 100000 in
set_option maxHeartbeats 2000000 in
theorem rRanks_calls (zs : List Nat) (a : Option Addr) (c : Nat) (st : Int) (k : Nat) (w : World) (h : Nums w a c zs) (hz : ∀ z ∈ zs, z ≤ 5) (hl : zs.length ≤ 4) (hk : k ≤ 3) :
    Calls Try.prog 121 #[.agg #[.slice a zs.length c, .int .i64 st], .int .i64 (k : Int)] w fun e w' => e = .returned (.int .i64 (sum zs ^ k : Nat)) ∧ w.grownBy w' none := by
  have hsl := sum_le hz
  obtain ⟨N, hN⟩ : ∃ N, sum zs = N := ⟨_, rfl⟩
  rw [hN] at hsl ⊢
  have hN20 : N ≤ 20 := by omega
  obtain ⟨n, hn⟩ : ∃ n, zs.length = n := ⟨_, rfl⟩
  have HA := Lib.hid (fun (W : World) (hW : w.grownBy W none) => by
    have hf := rAtoms_calls zs a c st W (h.grown hW) hz hl
    rw [hN, hn] at hf
    exact hf)
  rw [hn] at ⊢
  have HG := Lib.hid (World.grownBy_alloc w (.cells #[.slice a n c, .int .i64 st] 30) none)
  clear hsl hl hN h hz hn
  go_enter Try.func121, Try.ntmps121
  go_wp2_with fail
  go_loopg [5, 6] k (fun g s5 s6 wr => ∃ i : Nat, s6 = .int .i64 (i : Int) ∧ s5 = .int .i64 ((N ^ i : Nat) : Int) ∧ g = k - i ∧ i ≤ k ∧ (wr.cell? ⟨w.heap.size, 0, none⟩ = some (.slice a n c) ∧ wr.cell? ⟨w.heap.size, 1, none⟩ = some (.int .i64 st)) ∧ w.grownBy wr none)
  case atStart => exact ⟨0, rfl, rfl, rfl, Nat.zero_le _, ⟨by go_simp, by go_simp⟩, HG.out⟩
  case round =>
    obtain ⟨i, rfl, rfl, hgi, hi, ⟨c0, c1⟩, hgr⟩ := hrel
    have HGI := Lib.hid (And.intro hgi hgr); clear hgi hgr
    by_cases hik : i < k
    · have d1 : decide (i < k) = true := by simpa using hik
      have d2 : decide ((i : Int) < 3) = true := by simp; omega
      have hP : N ^ i ≤ 20 ^ 2 := Nat.le_trans (Nat.pow_le_pow_left hN20 i) (Nat.pow_le_pow_right (by omega) (by omega))
      have HPS : Hid (N ^ (i + 1) = N ^ i * N) := Lib.hid (Nat.pow_succ ..)
      obtain ⟨P, hPP⟩ : ∃ P, N ^ i = P := ⟨_, rfl⟩
      rw [hPP] at hP HPS ⊢
      have hmul : (P : Int) * (N : Int) ≤ 8000 := by
        have h1 : P * N ≤ 20 ^ 2 * 20 := Nat.mul_le_mul hP hN20
        have h2 : ((P * N : Nat) : Int) ≤ 8000 := by omega
        rwa [Int.natCast_mul] at h2
      have hmul0 : 0 ≤ (P : Int) * (N : Int) := Int.mul_nonneg (by omega) (by omega)
      clear hPP hP
      go_wp2_with fail
      refine (HA.out _ HGI.out.2).mono ?_
      rintro e w1 ⟨rfl, g1⟩
      have e0 := g1.cell c0 (by simp)
      have e1 := g1.cell c1 (by simp)
      have HG1 := Lib.hid (HGI.out.2.trans g1); clear g1 c0 c1
      go_wp2_with fail
      go_roundg (k - (i + 1))
      case measure => rw [HGI.out.1]; omega
      case rel => exact ⟨i + 1, rfl, by rw [HPS.out]; simp, rfl, by omega, ⟨e0, e1⟩, HG1.out⟩
    · have hie : i = k := by omega
      subst hie
      have d1 : decide (i < i) = false := by simp
      go_wp2_with fail
      go_ret
      exact ⟨rfl, HGI.out.2⟩
end Go.Proofs.Ytbddpjofhddilaa
/- The reference's Tuple, and which scopes it takes for valid. -/
namespace Go.Proofs.Ytbddpjofhddilaa
open Go.RowKit

set_option maxRecDepth 100000 in
set_option maxHeartbeats 4000000 in
theorem rTuple_calls (zs : List Nat) (a : Option Addr) (c : Nat) (st k r : Int) (w : World) (h : Nums w a c zs) (hz : ∀ z ∈ zs, z ≤ 5) (hl : zs.length ≤ 4) (hr : -9223372036854775808 ≤ r ∧ r ≤ 9223372036854775807) :
    Calls Try.prog 122 #[.agg #[.slice a zs.length c, .int .i64 st], .int .i64 k, .int .i64 r] w fun e w' => ∃ a' c', e = .returned (.slice a' (tupI (sum zs) k r).length c') ∧ Ints w' a' c' (tupI (sum zs) k r) ∧ w.grownBy w' none := by
  have hsl := sum_le hz
  obtain ⟨N, hN⟩ : ∃ N, sum zs = N := ⟨_, rfl⟩
  rw [hN] at hsl ⊢
  have hN20 : N ≤ 20 := by omega
  obtain ⟨n, hn⟩ : ∃ n, zs.length = n := ⟨_, rfl⟩
  have HA := Lib.hid (fun (W : World) (hW : w.grownBy W none) => by
    have hf := rAtoms_calls zs a c st W (h.grown hW) hz hl
    rw [hN, hn] at hf
    exact hf)
  have HK := Lib.hid (fun (W : World) (m : Nat) (hm : m ≤ 3) (hW : w.grownBy W none) => by
    have hf := rRanks_calls zs a c st m W (h.grown hW) hz hl hm
    rw [hN, hn] at hf
    exact hf)
  rw [hn]
  have hg := World.grownBy_alloc w (.cells #[.slice a n c, .int .i64 st] 30) none
  have q0 : (w.alloc (.cells #[.slice a n c, .int .i64 st] 30)).cell? ⟨w.heap.size, 0, none⟩ = some (.slice a n c) := by go_simp
  have q1 : (w.alloc (.cells #[.slice a n c, .int .i64 st] 30)).cell? ⟨w.heap.size, 1, none⟩ = some (.int .i64 st) := by go_simp
  have HG := Lib.hid (And.intro hg (And.intro q0 q1)); clear hg q0 q1
  clear hsl hl hN h hz hn
  by_cases hbad : k < 0 ∨ 3 < k ∨ r < 0
  · have HR : Hid (tupI N k r = []) := Lib.hid (by
      unfold tupI
      by_cases h1 : k < 0 ∨ 3 < k ∨ (0 < k ∧ N < 1)
      · rw [if_pos h1]
      · rw [if_neg h1, if_pos (.inl (by omega))])
    have h4 : decide (k < 0) = true ∨ (decide (k < 0) = false ∧ decide (3 < k) = true) ∨ (decide (k < 0) = false ∧ decide (3 < k) = false ∧ decide (r < 0) = true) := by
      by_cases b1 : k < 0
      · exact .inl (by simpa using b1)
      · by_cases b2 : 3 < k
        · exact .inr (.inl ⟨by simpa using b1, by simpa using b2⟩)
        · exact .inr (.inr ⟨by simpa using b1, by simpa using b2, by simp; omega⟩)
    clear hbad
    rcases h4 with e1 | ⟨e1, e2⟩ | ⟨e1, e2, e3⟩
    all_goals
      go_enter Try.func122, Try.ntmps122
      go_wp2_with fail
      go_ret
      exact ⟨none, 0, by rw [HR.out]; rfl, by rw [HR.out]; exact ⟨Nat.le_refl _, .inl ⟨rfl, rfl, rfl⟩⟩, HG.out.1⟩
  · obtain ⟨m, hm⟩ : ∃ m : Nat, k = (m : Int) := ⟨k.toNat, by omega⟩
    subst hm
    obtain ⟨R, hR⟩ : ∃ R : Nat, r = (R : Int) := ⟨r.toNat, by omega⟩
    subst hR
    have hm3 : m ≤ 3 := by omega
    have e1 : decide (((m : Nat) : Int) < 0) = false := by simp
    have e2 : decide ((3 : Int) < (m : Int)) = false := by simp; omega
    have e3 : decide (((R : Nat) : Int) < 0) = false := by simp
    clear hbad
    go_enter Try.func122, Try.ntmps122
    go_wp2_with fail
    refine (HK.out _ m hm3 HG.out.1).mono ?_
    rintro e w1 ⟨rfl, g1⟩
    have c0 := g1.cell HG.out.2.1 (by simp)
    have c1 := g1.cell HG.out.2.2 (by simp)
    have HG1 := Lib.hid (HG.out.1.trans g1); clear g1
    obtain ⟨M, hM⟩ : ∃ M, N ^ m = M := ⟨_, rfl⟩
    rw [hM]
    have HM := Lib.hid hM; clear hM
    by_cases hbig : M ≤ R
    · have d1 : decide (M ≤ R) = true := by simpa using hbig
      have HR : Hid (tupI N (m : Int) (R : Int) = []) := Lib.hid (tupI_out (by rw [HM.out]; exact hbig))
      go_wp2_with fail
      go_ret
      exact ⟨none, 0, by rw [HR.out]; rfl, by rw [HR.out]; exact ⟨Nat.le_refl _, .inl ⟨rfl, rfl, rfl⟩⟩, HG1.out⟩
    have d1 : decide (M ≤ R) = false := by simpa using hbig
    have hNm : 0 < m → 1 ≤ N := fun h0 => by
      rcases Nat.eq_zero_or_pos N with h | h
      · subst h; have := HM.out; rw [Nat.zero_pow h0] at this; omega
      · exact h
    have HR : Hid (tupI N (m : Int) (R : Int) = (dig N m R).map Int.ofNat) := Lib.hid (tupI_in hm3 (by
      by_cases h0 : m = 0
      · exact .inr h0
      · exact .inl (hNm (by omega))) (by rw [HM.out]; omega))
    clear hbig
    have hmk : ∀ W : World, (Instr.makeSlice 28 (.int .i64 3) (.int .i64 3)).run Try.prog W = .ok (.slice (some ⟨W.heap.size, 0, none⟩) 3 3) (W.alloc (.cells #[.int .i64 0, .int .i64 0, .int .i64 0] 3)) := make_run 3 (Nat.le_refl _)
    have hown : Own w1 (w1.alloc (.cells #[.int .i64 0, .int .i64 0, .int .i64 0] 3)) w1.heap.size 3 := Own.make w1 3
    have q0 := hown.grown.cell c0 (by simp)
    have q1 := hown.grown.cell c1 (by simp)
    have HOW := Lib.hid hown; clear hown c0 c1
    go_wp2_with fail
    clear hmk
    obtain ⟨g, hg⟩ : ∃ g, w1.heap.size = g := ⟨_, rfl⟩
    obtain ⟨W, hW⟩ : ∃ W, w1.alloc (.cells #[.int .i64 0, .int .i64 0, .int .i64 0] 3) = W := ⟨_, rfl⟩
    rw [hW] at HOW q0 q1 ⊢
    rw [hg] at HOW ⊢
    clear hW hg
    refine (HA.out _ (HG1.out.trans HOW.out.grown)).mono ?_
    rintro e w2 ⟨rfl, g2⟩
    have HOW2 : Hid (Own w1 w2 g 3) := Lib.hid ⟨⟨HOW.out.size.1, Nat.lt_of_lt_of_le HOW.out.size.2 g2.size⟩, fun j hj => by
      obtain ⟨h1, h2⟩ := HOW.out.there j hj
      obtain ⟨u, hu⟩ := Option.isSome_iff_exists.1 h1
      exact ⟨by rw [g2.cell hu (by simp)]; rfl, (World.frozen?_of_block (a := ⟨g, j, none⟩) (g2.block g HOW.out.size.2 (by simp))).trans h2⟩, HOW.out.grown.trans g2⟩
    clear g2 HOW q0 q1
    go_wp2_with fail
    go_loopg [9, 10] m (fun gk s9 s10 wr => ∃ (q L : Nat) (x : Int) (S : List Nat), s9 = .int .i64 (L : Int) ∧ s10 = .int .i64 x ∧ x = (q : Int) - 1 ∧ gk = q ∧ q ≤ m ∧ S.length = m - q ∧ dig N m R = dig N q L ++ S ∧
      (∀ (j : Nat) (z : Nat), S[j]? = some z → wr.cell? ⟨g, q + j, none⟩ = some (.int .i64 (z : Int))) ∧ Own w1 wr g 3 ∧ (L : Int) ≤ 9223372036854775807)
    case atStart => exact ⟨m, R, _, [], rfl, rfl, rfl, rfl, Nat.le_refl _, by simp, by simp, by simp, HOW2.out, hr.2⟩
    case round =>
      obtain ⟨q, L, x, S, rfl, rfl, hx, hgk, hqm, hSl, ht, hcs, ho, hL⟩ := hrel
      have HGK := Lib.hid (And.intro hgk (And.intro hSl ht)); clear hgk hSl ht
      have HCS := Lib.hid hcs; clear hcs
      have HO := Lib.hid ho; clear ho
      cases q with
      | zero =>
        have hx0 : x = -1 := by omega
        subst hx0
        clear hx
        have HTup : Hid (dig N m R = S ∧ S.length = m) := Lib.hid ⟨by rw [HGK.out.2.2]; simp [dig], by rw [HGK.out.2.1]; rfl⟩
        have hm3I : (m : Int) ≤ 3 := by omega
        go_wp2_with fail
        go_ret
        refine ⟨some ⟨g, 0, none⟩, 3, by rw [HR.out, HTup.out.1, List.length_map, HTup.out.2]; simp, ?_, HG1.out.trans HO.out.grown⟩
        rw [HR.out, HTup.out.1]
        refine ⟨by rw [List.length_map, HTup.out.2]; exact hm3, .inr ⟨g, 0, rfl, HO.out.size.2, fun j z hj => ?_⟩⟩
        rw [List.getElem?_map] at hj
        cases hq : S[j]? with
        | none => rw [hq] at hj; simp at hj
        | some y =>
          rw [hq] at hj
          simp at hj
          subst hj
          exact HCS.out j y hq
      | succ p =>
        have hxp : x = (p : Int) := by omega
        subst hxp
        clear hx
        have hp0 : decide ((0 : Int) ≤ (p : Int)) = true := by simp
        have hpm : p < m := by omega
        have hp3 : p < 3 := by omega
        have hpI : (p : Int) < 3 := by omega
        have hNp := hNm (by omega)
        have hNI : (N : Int) ≠ 0 := by omega
        have hNI2 : (0 : Int) < (N : Int) := by omega
        obtain ⟨hsome, hfr⟩ := HO.out.there p hp3
        obtain ⟨old, hold⟩ := Option.isSome_iff_exists.1 hsome
        obtain ⟨y, hy⟩ : ∃ y, L % N = y := ⟨_, rfl⟩
        obtain ⟨v, hv⟩ : ∃ v, L / N = v := ⟨_, rfl⟩
        have hyI : (L : Int) % (N : Int) = (y : Int) := by rw [← hy]; rfl
        have hvI : (L : Int) / (N : Int) = (v : Int) := by rw [← hv]; rfl
        have HV : Hid ((v : Int) ≤ 9223372036854775807) := Lib.hid (by have := Nat.div_le_self L N; rw [hv] at this; omega)
        have hvb := HV.out
        have HDG : Hid (dig N (p + 1) L = dig N p v ++ [y]) := Lib.hid (by rw [dig, hy, hv])
        have HNO := Lib.hid (HO.out.set p (.int .i64 (y : Int)))
        have HNC : Hid (∀ (j : Nat) (z : Nat), (y :: S)[j]? = some z → (wr.setCell ⟨g, p, none⟩ (.int .i64 (y : Int))).cell? ⟨g, p + j, none⟩ = some (.int .i64 (z : Int))) := Lib.hid (fun j z hj => by
          cases j with
          | zero =>
            simp at hj; subst hj
            exact World.cell?_setCell_same' _ _ _ (HO.out.there p hp3).1
          | succ j =>
            rw [World.cell?_setCell_other _ _ _ _ (by intro e; simp at e), show p + (j + 1) = p + 1 + j by omega]
            exact HCS.out j z (by simpa using hj))
        clear hy hv
        go_wp2_with fail
        go_roundg p
        case measure => rw [HGK.out.1]; omega
        case rel => exact ⟨p, v, _, y :: S, rfl, rfl, rfl, rfl, by omega, by rw [List.length_cons, HGK.out.2.1]; omega, by rw [HGK.out.2.2, HDG.out]; simp, HNC.out, HNO.out, HV.out⟩
end Go.Proofs.Ytbddpjofhddilaa
/- Which scopes the reference takes for valid; whose atoms a tuple has. -/
namespace Go.Proofs.Ytbddpjofhddilaa
open Go.RowKit

def sizedR (zs : List Int) (st : Int) : Bool := decide (zs.length ≤ 4) && decide (1 ≤ st) && decide (st ≤ 4) && sized zs && decide (sum (zs.map Int.toNat) ≤ 12)
theorem sized_take {zs : List Int} {i : Nat} {z : Int} (h : sized (zs.take i) = true) (hz : zs[i]? = some z) (h1 : 1 ≤ z ∧ z ≤ 5) : sized (zs.take (i + 1)) = true := by
  unfold sized at *
  rw [List.take_add_one, hz, Option.toList_some, List.all_append, h]
  simp [h1.1, h1.2]
theorem sized_sum {zs : List Int} (h : sized zs = true) (hl : zs.length ≤ 4) : sum (zs.map Int.toNat) ≤ 20 := by
  have h1 := sum_le (l := zs.map Int.toNat) (m := 5) (fun y hy => by
    obtain ⟨z, hz, rfl⟩ := List.mem_map.1 hy
    have := sized_at h hz
    omega)
  rw [List.length_map] at h1
  omega
set_option maxRecDepth 100000 in
set_option maxHeartbeats 4000000 in
theorem rSized_calls (zs : List Int) (a : Option Addr) (c : Nat) (st : Int) (w : World) (h : Ints w a c zs) (hl : zs.length ≤ 1000000) :
    Calls Try.prog 120 #[.agg #[.slice a zs.length c, .int .i64 st]] w fun e w' => e = .returned (.bool (sizedR zs st)) ∧ w.grownBy w' none := by
  obtain ⟨n, hn⟩ : ∃ n, zs.length = n := ⟨_, rfl⟩
  rw [hn] at hl ⊢
  have hg := World.grownBy_alloc w (.cells #[.slice a n c, .int .i64 st] 30) none
  have HG := Lib.hid (And.intro (h.grown hg) (And.intro hn hg)); clear h hn hg
  by_cases hbad : 4 < n ∨ st < 1 ∨ 4 < st
  · have HR : Hid (sizedR zs st = false) := Lib.hid (by
      unfold sizedR
      rw [HG.out.2.1]
      rcases hbad with h | h | h
      · rw [show decide (n ≤ 4) = false by simp; omega]; simp
      · rw [show decide (1 ≤ st) = false by simp; omega]; simp
      · rw [show decide (st ≤ 4) = false by simp; omega]; simp)
    have h4 : decide ((4 : Int) < (n : Int)) = true ∨ (decide ((4 : Int) < (n : Int)) = false ∧ decide (st < 1) = true) ∨ (decide ((4 : Int) < (n : Int)) = false ∧ decide (st < 1) = false ∧ decide (4 < st) = true) := by
      by_cases b1 : 4 < n
      · exact .inl (by simp; omega)
      · by_cases b2 : st < 1
        · exact .inr (.inl ⟨by simp; omega, by simpa using b2⟩)
        · exact .inr (.inr ⟨by simp; omega, by simpa using b2, by simp; omega⟩)
    clear hbad
    rcases h4 with e1 | ⟨e1, e2⟩ | ⟨e1, e2, e3⟩
    all_goals
      go_enter Try.func120, Try.ntmps120
      go_wp2_with fail
      go_ret
      exact ⟨by rw [HR.out]; rfl, HG.out.2.2⟩
  · have e1 : decide ((4 : Int) < (n : Int)) = false := by simp; omega
    have e2 : decide (st < 1) = false := by simp; omega
    have e3 : decide (4 < st) = false := by simp; omega
    have hn4 : n ≤ 4 := by omega
    have HST : Hid (1 ≤ st ∧ st ≤ 4) := Lib.hid (by omega)
    clear hbad
    go_enter Try.func120, Try.ntmps120
    go_wp2_with fail
    obtain ⟨b, hb⟩ : ∃ b, w.heap.size = b := ⟨_, rfl⟩
    have c0 : (w.alloc (.cells #[.slice a n c, .int .i64 st] 30)).cell? ⟨b, 0, none⟩ = some (.slice a n c) := by rw [← hb]; clear hb; go_simp
    obtain ⟨W, hW⟩ : ∃ W, w.alloc (.cells #[.slice a n c, .int .i64 st] 30) = W := ⟨_, rfl⟩
    rw [hW] at HG c0 ⊢
    rw [hb]
    clear hW hb
    go_loopg [3, 4] n (fun gk s3 s4 wr => ∃ i : Nat, s3 = .int .i64 (sum ((zs.take i).map Int.toNat) : Nat) ∧ s4 = .int .i64 (i : Int) ∧ gk = n - i ∧ i ≤ n ∧ sized (zs.take i) = true ∧ wr = W)
    case atStart => exact ⟨0, rfl, rfl, rfl, Nat.zero_le _, rfl, rfl⟩
    case round =>
      obtain ⟨i, rfl, rfl, hgi, hi, hsz, rfl⟩ := hrel
      have hS20 := sized_sum hsz (by simp; omega)
      have HGI := Lib.hid (And.intro hgi hsz); clear hgi hsz
      by_cases hin : i < n
      · have hinB : decide (i < n) = true := by simpa using hin
        have hinI : (i : Int) < (n : Int) := by omega
        obtain ⟨z, hz⟩ : ∃ z, zs[i]? = some z := ⟨_, List.getElem?_eq_getElem (by have := HG.out.2.1; omega)⟩
        obtain ⟨ab, ao, rfl, cz⟩ := HG.out.1.at hz
        have HZ := Lib.hid hz; clear hz
        have HR : Hid (¬ (1 ≤ z ∧ z ≤ 5) → sizedR zs st = false) := Lib.hid (fun hno => by
          unfold sizedR
          rw [show sized zs = false by
            cases hq : sized zs with
            | false => rfl
            | true => exact absurd (sized_at hq (List.mem_of_getElem? HZ.out)) hno]
          simp)
        by_cases h1 : z < 1
        · have d1 : decide (z < 1) = true := by simpa using h1
          go_wp2_with fail
          go_ret
          exact ⟨by rw [HR.out (by omega)]; rfl, HG.out.2.2⟩
        · have d1 : decide (z < 1) = false := by simpa using h1
          by_cases h5 : 5 < z
          · have d2 : decide (5 < z) = true := by simpa using h5
            go_wp2_with fail
            go_ret
            exact ⟨by rw [HR.out (by omega)]; rfl, HG.out.2.2⟩
          · have d2 : decide (5 < z) = false := by simpa using h5
            have HSN : Hid (((sum ((zs.take (i + 1)).map Int.toNat) : Nat) : Int) = (sum ((zs.take i).map Int.toNat) : Nat) + z) := Lib.hid (by
              rw [List.take_add_one, HZ.out, Option.toList_some, List.map_append, List.map_singleton, sum_snoc]
              omega)
            have HNX := Lib.hid (sized_take HGI.out.2 HZ.out (by omega))
            obtain ⟨S, hS⟩ : ∃ S, sum ((zs.take i).map Int.toNat) = S := ⟨_, rfl⟩
            rw [hS] at hS20 HSN ⊢
            have hz5 : z ≤ 5 := by omega
            have hz1 : 1 ≤ z := by omega
            clear hS h1 h5
            go_wp2_with fail
            go_roundg (n - (i + 1))
            case measure => rw [HGI.out.1]; omega
            case rel => exact ⟨i + 1, by rw [HSN.out], rfl, rfl, by omega, HNX.out, rfl⟩
      · have hie : i = n := by omega
        subst hie
        have hinB : decide (i < i) = false := by simp
        have HR : Hid (sizedR zs st = decide (sum ((zs.take i).map Int.toNat) ≤ 12)) := Lib.hid (by
          have h1 := HGI.out.2
          rw [List.take_of_length_le (by rw [HG.out.2.1]; exact Nat.le_refl _)] at h1 ⊢
          unfold sizedR
          rw [h1, HG.out.2.1, show decide (i ≤ 4) = true by simpa using hn4, show decide (1 ≤ st) = true by simpa using HST.out.1, show decide (st ≤ 4) = true by simpa using HST.out.2]
          simp)
        obtain ⟨S, hS⟩ : ∃ S, sum ((zs.take i).map Int.toNat) = S := ⟨_, rfl⟩
        rw [hS] at HR ⊢
        clear hS hS20
        by_cases h12 : S ≤ 12
        · have d12 : decide ((S : Int) ≤ 12) = true := by simp; omega
          go_wp2_with fail
          go_ret
          exact ⟨by rw [HR.out, show decide (S ≤ 12) = true by simpa using h12]; rfl, HG.out.2.2⟩
        · have d12 : decide ((S : Int) ≤ 12) = false := by simp; omega
          go_wp2_with fail
          go_ret
          exact ⟨by rw [HR.out, show decide (S ≤ 12) = false by simpa using h12]; rfl, HG.out.2.2⟩
theorem validI_sized (k : Nat) (zs : List Int) (st : Int) : validI k zs st = (decide (k = zs.length) && sizedR zs st) := by
  unfold validI sizedR
  by_cases h : zs.length = k
  · subst h; simp
  · have h1 : decide (zs.length = k) = false := by simpa using h
    have h2 : decide (k = zs.length) = false := by simp; omega
    rw [h1, h2]; simp

set_option maxHeartbeats 4000000 in
theorem rValid_calls (sa : Option Addr) (k sc : Nat) (a2 a3 a4 : Option Addr) (n2 c2 n3 c3 n4 c4 : Nat) (zs : List Int) (a : Option Addr) (c : Nat) (st : Int) (w : World) (h : Ints w a c zs) (hl : zs.length ≤ 1000000) :
    Calls Try.prog 92 #[.agg #[.slice sa k sc, .slice a2 n2 c2, .slice a3 n3 c3, .slice a4 n4 c4], .agg #[.slice a zs.length c, .int .i64 st]] w fun e w' => e = .returned (.bool (validI k zs st)) ∧ w.grownBy w' none := by
  obtain ⟨n, hn⟩ : ∃ n, zs.length = n := ⟨_, rfl⟩
  have hg1 := World.grownBy_alloc w (.cells #[.slice sa k sc, .slice a2 n2 c2, .slice a3 n3 c3, .slice a4 n4 c4] 27) none
  have hg2 := World.grownBy_alloc (w.alloc (.cells #[.slice sa k sc, .slice a2 n2 c2, .slice a3 n3 c3, .slice a4 n4 c4] 27)) (.cells #[.slice a n c, .int .i64 st] 30) none
  have HG := Lib.hid (hg1.trans hg2); clear hg1 hg2
  have HC := Lib.hid (fun (W : World) (hW : w.grownBy W none) => by
    have hf := rSized_calls zs a c st W (h.grown hW) hl
    rw [hn] at hf
    exact hf)
  have HV : Hid (validI k zs st = (decide (k = n) && sizedR zs st)) := Lib.hid (by rw [validI_sized, hn])
  rw [hn]
  clear h hl hn
  by_cases hk : k = n
  · have dk : ((k : Int) == (n : Int)) = true := by simp; omega
    have HK : Hid (validI k zs st = sizedR zs st) := Lib.hid (by rw [HV.out, show decide (k = n) = true by simpa using hk]; simp)
    subst hk
    go_enter Try.func92, Try.ntmps92
    go_wp2_with fail
    refine (HC.out _ HG.out).mono ?_
    rintro e w1 ⟨rfl, g1⟩
    have HG1 := Lib.hid (HG.out.trans g1); clear g1
    go_wp2_with fail
    go_ret
    exact ⟨by rw [HK.out]; rfl, HG1.out⟩
  · have dk : ((k : Int) == (n : Int)) = false := by simp; omega
    have HK : Hid (validI k zs st = false) := Lib.hid (by rw [HV.out, show decide (k = n) = false by simpa using hk]; simp)
    go_enter Try.func92, Try.ntmps92
    go_wp2_with fail
    go_ret
    exact ⟨by rw [HK.out]; rfl, HG.out⟩
end Go.Proofs.Ytbddpjofhddilaa
/- The reference's fits and Full. -/
namespace Go.Proofs.Ytbddpjofhddilaa
open Go.RowKit Go.Shelf

/-- The atoms have the sorts. -/
def fitR (zs : List Nat) (ds ss : List Int) : Bool := (ds.zip ss).all fun p => decide (sortI zs p.1 = p.2)
theorem fitR_no {zs : List Nat} {ds ss : List Int} {i : Nat} {d s : Int} (hd : ds[i]? = some d) (hs : ss[i]? = some s) (h : sortI zs d ≠ s) : fitR zs ds ss = false := by
  cases hq : fitR zs ds ss with
  | false => rfl
  | true =>
    have h1 := List.all_eq_true.1 hq (d, s) (List.mem_of_getElem? (i := i) (by rw [List.getElem?_zip_eq_some]; exact ⟨hd, hs⟩))
    exact absurd (by simpa using h1) h
theorem fitR_yes {zs : List Nat} {ds ss : List Int} (h : ∀ (i : Nat) (d s : Int), ds[i]? = some d → ss[i]? = some s → sortI zs d = s) : fitR zs ds ss = true := by
  refine List.all_eq_true.2 fun p hp => ?_
  obtain ⟨i, hi⟩ := List.mem_iff_getElem?.1 hp
  rw [List.getElem?_zip_eq_some] at hi
  simpa using h i p.1 p.2 hi.1 hi.2
set_option maxRecDepth 100000 in
set_option maxHeartbeats 4000000 in
theorem rFits_calls (zs : List Nat) (a : Option Addr) (c : Nat) (st : Int) (ds ss : List Int) (da sa : Option Addr) (dc sc : Nat) (w : World) (h : Nums w a c zs) (hz : ∀ z ∈ zs, z ≤ 5) (hl : zs.length ≤ 4) (hd : Ints w da dc ds) (hs : Ints w sa sc ss) (hds : ds.length = ss.length) (hsl : ss.length ≤ 1000) :
    Calls Try.prog 123 #[.agg #[.slice a zs.length c, .int .i64 st], .slice da ds.length dc, .slice sa ss.length sc] w fun e w' => e = .returned (.bool (fitR zs ds ss)) ∧ w.grownBy w' none := by
  obtain ⟨k, hk⟩ : ∃ k, ss.length = k := ⟨_, rfl⟩
  obtain ⟨n, hn⟩ : ∃ n, zs.length = n := ⟨_, rfl⟩
  rw [hds, hk]
  rw [hk] at hsl hds
  have hg := World.grownBy_alloc w (.cells #[.slice a zs.length c, .int .i64 st] 30) none
  have HG := Lib.hid hg
  have HD := Lib.hid (And.intro hds (And.intro hk (And.intro (hd.grown hg) (hs.grown hg))))
  have HC := Lib.hid (fun (x : Int) (W : World) (hW : w.grownBy W none) => by
    have hf := rSort_calls zs a c st x W (h.grown hW) hz hl
    rw [hn] at hf
    exact hf)
  rw [hn] at HG HD ⊢
  clear h hz hl hd hs hds hk hn hg
  go_enter Try.func123, Try.ntmps123
  go_wp2_with fail
  obtain ⟨b, hb⟩ : ∃ b, w.heap.size = b := ⟨_, rfl⟩
  have c0 : (w.alloc (.cells #[.slice a n c, .int .i64 st] 30)).cell? ⟨b, 0, none⟩ = some (.slice a n c) := by rw [← hb]; clear hb; go_simp
  have c1 : (w.alloc (.cells #[.slice a n c, .int .i64 st] 30)).cell? ⟨b, 1, none⟩ = some (.int .i64 st) := by rw [← hb]; clear hb; go_simp
  obtain ⟨W, hW⟩ : ∃ W, w.alloc (.cells #[.slice a n c, .int .i64 st] 30) = W := ⟨_, rfl⟩
  rw [hW] at HG HD c0 c1 ⊢
  rw [hb]
  clear hW hb
  go_loopg [7] k (fun gk s7 wr => ∃ i : Nat, s7 = .int .i64 (i : Int) ∧ gk = k - i ∧ i ≤ k ∧ (∀ (j : Nat) (d s : Int), j < i → ds[j]? = some d → ss[j]? = some s → sortI zs d = s) ∧ W.grownBy wr none)
  case atStart => exact ⟨0, rfl, rfl, Nat.zero_le _, fun j d s hj => by omega, ⟨rfl, rfl, rfl, Nat.le_refl _, fun _ _ _ => rfl⟩⟩
  case round =>
    obtain ⟨i, rfl, hgk, hik, hok, hgr⟩ := hrel
    have d0 := hgr.cell c0 (by simp)
    have d1 := hgr.cell c1 (by simp)
    have HI := Lib.hid (And.intro hgk (And.intro hok hgr)); clear hgk hok hgr
    by_cases hi : i < k
    · have hiB : decide (i < k) = true := by simpa using hi
      have hiI : (i : Int) < (k : Int) := by omega
      obtain ⟨d, hd⟩ : ∃ d, ds[i]? = some d := ⟨_, List.getElem?_eq_getElem (by have := HD.out.1; omega)⟩
      obtain ⟨s, hs⟩ : ∃ s, ss[i]? = some s := ⟨_, List.getElem?_eq_getElem (by have := HD.out.2.1; omega)⟩
      obtain ⟨ub, uo, rfl, cu⟩ := (HD.out.2.2.1.grown HI.out.2.2).at hd
      obtain ⟨vb, vo, rfl, cv⟩ := (HD.out.2.2.2.grown HI.out.2.2).at hs
      have HCC := Lib.hid (fun (W' : World) (hW : wr.grownBy W' none) => HC.out d W' ((HG.out.trans HI.out.2.2).trans hW))
      have HDS := Lib.hid (And.intro hd hs); clear hd hs
      obtain ⟨S, hS⟩ : ∃ S, sortI zs d = S := ⟨_, rfl⟩
      rw [hS] at HCC
      have HS := Lib.hid hS; clear hS
      by_cases hSs : S = s
      · have e1 : (S != s) = false := by simpa using hSs
        go_wp2_with fail
        go_region_held3 (fun w' => wr.grownBy w' none ∧ w'.cell? ⟨b, 0, none⟩ = some (.slice a n c) ∧ w'.cell? ⟨b, 1, none⟩ = some (.int .i64 st) ∧ w'.cell? ⟨ub, uo + i, none⟩ = some (.int .i64 d) ∧ w'.cell? ⟨vb, vo + i, none⟩ = some (.int .i64 s))
          (first | exact ⟨⟨rfl, rfl, rfl, Nat.le_refl _, fun _ _ _ => rfl⟩, d0, d1, cu, cv⟩ | (go_split_ands; exact ⟨by assumption, by assumption, by assumption, by assumption, by assumption⟩) | (go_split_ands; exact held_next4 g3 (by assumption) (by assumption) (by assumption) (by assumption) (by assumption)))
          (first | (go_at_call 131; refine (HCC.out _ ?_).mono ?_; (go_split_ands; assumption); rintro e w3 ⟨rfl, g3⟩))
        go_wp2
        all_goals
          have h3 : wr.grownBy w3 none := by go_split_ands; assumption
          go_roundg (k - (i + 1))
          case measure => rw [HI.out.1]; omega
          case rel => exact ⟨i + 1, rfl, rfl, by omega, fun j d' s' hj hd' hs' => by
            by_cases hji : j < i
            · exact HI.out.2.1 j d' s' hji hd' hs'
            · obtain rfl : j = i := by omega
              rw [HDS.out.1] at hd'; rw [HDS.out.2] at hs'; cases hd'; cases hs'
              rw [HS.out]; exact hSs, HI.out.2.2.trans h3⟩
      · have e1 : (S != s) = true := by simpa using hSs
        go_wp2_with fail
        go_region_held3 (fun w' => wr.grownBy w' none ∧ w'.cell? ⟨b, 0, none⟩ = some (.slice a n c) ∧ w'.cell? ⟨b, 1, none⟩ = some (.int .i64 st) ∧ w'.cell? ⟨ub, uo + i, none⟩ = some (.int .i64 d) ∧ w'.cell? ⟨vb, vo + i, none⟩ = some (.int .i64 s))
          (first | exact ⟨⟨rfl, rfl, rfl, Nat.le_refl _, fun _ _ _ => rfl⟩, d0, d1, cu, cv⟩ | (go_split_ands; exact ⟨by assumption, by assumption, by assumption, by assumption, by assumption⟩) | (go_split_ands; exact held_next4 g3 (by assumption) (by assumption) (by assumption) (by assumption) (by assumption)))
          (first | (go_at_call 131; refine (HCC.out _ ?_).mono ?_; (go_split_ands; assumption); rintro e w3 ⟨rfl, g3⟩))
        go_wp2
        all_goals
          have h3 : wr.grownBy w3 none := by go_split_ands; assumption
          go_ret
          exact ⟨by rw [fitR_no HDS.out.1 HDS.out.2 (by rw [HS.out]; exact hSs)]; rfl, (HG.out.trans HI.out.2.2).trans h3⟩
    · have hie : i = k := by omega
      subst hie
      have hiB : decide (i < i) = false := by simp
      go_wp2_with fail
      go_ret
      exact ⟨by rw [fitR_yes (fun j d s hd hs => HI.out.2.1 j d s (by have h1 := (List.getElem?_eq_some_iff.1 hs).1; have h2 := HD.out.2.1; omega) hd hs)]; rfl, HG.out.trans HI.out.2.2⟩
end Go.Proofs.Ytbddpjofhddilaa
/- The ranks of all tuples over given sorts: those whose atoms fit, in order. -/
namespace Go.Proofs.Ytbddpjofhddilaa
open Go.RowKit Go.Shelf

theorem sorted_ext : ∀ {l m : List Nat}, l.Pairwise (· < ·) → m.Pairwise (· < ·) → (∀ x, x ∈ l ↔ x ∈ m) → l = m
  | [], [], _, _, _ => rfl
  | [], b :: m, _, _, h => by have := (h b).2 (by simp); cases this
  | a :: l, [], _, _, h => by have := (h a).1 (by simp); cases this
  | a :: l, b :: m, hl, hm, h => by
    rw [List.pairwise_cons] at hl hm
    have hab : a = b := by
      have h1 := (h a).1 (by simp)
      have h2 := (h b).2 (by simp)
      rw [List.mem_cons] at h1 h2
      rcases h1 with h1 | h1
      · exact h1
      · rcases h2 with h2 | h2
        · exact h2.symm
        · have := hl.1 b h2; have := hm.1 a h1; omega
    subst hab
    rw [sorted_ext hl.2 hm.2 fun x => ⟨fun hx => ?_, fun hx => ?_⟩]
    · have h1 := (h x).1 (by simp [hx])
      rw [List.mem_cons] at h1
      rcases h1 with rfl | h1
      · have := hl.1 x hx; omega
      · exact h1
    · have h1 := (h x).2 (by simp [hx])
      rw [List.mem_cons] at h1
      rcases h1 with rfl | h1
      · have := hm.1 x hx; omega
      · exact h1
/-- Atoms of those sorts have a rank among them. -/
theorem of_digs {zs : List Nat} : ∀ (ss ds : List Nat) (x : Nat), OfSorts zs ds ss → ds.foldl (fun v d => v * sum zs + d) x ∈ digs zs x ss
  | [], ds, x, h => by
    rw [List.eq_nil_of_length_eq_zero h.1]
    simp [digs]
  | s :: ss, [], x, h => by have := h.1; cases this
  | s :: ss, d :: ds, x, h => by
    have h0 := h.2 0 d s rfl rfl
    have ht : OfSorts zs ds ss := ⟨by have := h.1; simpa using this, fun j d' s' hd hs => h.2 (j + 1) d' s' (by simpa using hd) (by simpa using hs)⟩
    cases hz : zs[s]? with
    | none =>
      have hle : zs.length ≤ s := by simpa using hz
      have h1 : zs.take s = zs := List.take_of_length_le hle
      have h2 : zs.take (s + 1) = zs := List.take_of_length_le (by omega)
      rw [h1, h2] at h0; omega
    | some z =>
      have h1 : sum (zs.take (s + 1)) = sum (zs.take s) + z := by rw [List.take_add_one, hz, Option.toList_some, sum_snoc]
      simp only [digs, List.mem_flatMap, List.mem_range]
      refine ⟨d - sum (zs.take s), by rw [List.getD_eq_getElem?_getD, hz]; simp; omega, ?_⟩
      rw [show sum (zs.take s) + (d - sum (zs.take s)) = d by omega]
      exact of_digs ss ds _ ht
theorem fit_iff {zs ds : List Nat} {ss : List Int} (hd : ∀ d ∈ ds, d < sum zs) (hl : ds.length = ss.length) (hs : ∀ s ∈ ss, 0 ≤ s) : fitR zs (ints ds) ss = true ↔ OfSorts zs ds (ss.map Int.toNat) := by
  constructor
  · intro h
    refine ⟨by rw [List.length_map]; exact hl, fun j d s hdj hsj => ?_⟩
    rw [List.getElem?_map] at hsj
    cases hq : ss[j]? with
    | none => rw [hq] at hsj; cases hsj
    | some t =>
      rw [hq] at hsj
      have e : t.toNat = s := by simpa using hsj
      have ht := hs t (List.mem_of_getElem? hq)
      have h1 := List.all_eq_true.1 h ((d : Int), t) (List.mem_of_getElem? (i := j) (by rw [List.getElem?_zip_eq_some]; exact ⟨by simp [ints, hdj], hq⟩))
      have hdl := hd d (List.mem_of_getElem? hdj)
      have h2 := (sortI_is (l := zs) (x := (d : Int)) (i := s) (by omega) (by omega)).1 (by have := of_decide_eq_true h1; simp only at this; omega)
      omega
  · intro h
    refine fitR_yes fun i d s hdi hsi => ?_
    rw [ints, List.getElem?_map] at hdi
    cases hq : ds[i]? with
    | none => rw [hq] at hdi; cases hdi
    | some e =>
      rw [hq] at hdi
      have he : (e : Int) = d := by simpa using hdi
      subst he
      have hs0 := hs s (List.mem_of_getElem? hsi)
      have h1 := h.2 i e s.toNat hq (by rw [List.getElem?_map, hsi]; rfl)
      have hdl := hd e (List.mem_of_getElem? hq)
      have h2 := (sortI_is (l := zs) (x := (e : Int)) (i := s.toNat) (by omega) (by omega)).2 (by omega)
      omega
/-- The ranks below m whose atoms fit. -/
def fitTo (zs : List Nat) (ss : List Int) (m : Nat) : List Nat := (List.range m).filter fun r => fitR zs (ints (dig (sum zs) ss.length r)) ss
theorem fitTo_succ (zs : List Nat) (ss : List Int) (m : Nat) : fitTo zs ss (m + 1) = if fitR zs (ints (dig (sum zs) ss.length m)) ss then fitTo zs ss m ++ [m] else fitTo zs ss m := by
  unfold fitTo
  rw [List.range_succ, List.filter_append]
  by_cases h : fitR zs (ints (dig (sum zs) ss.length m)) ss = true
  · rw [if_pos h]; simp [h]
  · rw [if_neg h]; simp [h]
theorem fitTo_length (zs : List Nat) (ss : List Int) (m : Nat) : (fitTo zs ss m).length ≤ m := by
  have h := List.length_filter_le (fun r => fitR zs (ints (dig (sum zs) ss.length r)) ss) (List.range m)
  rw [List.length_range] at h
  exact h
theorem fitTo_digs {zs : List Nat} {ss : List Int} (hs : ∀ s ∈ ss, 0 ≤ s) (h1 : ss.length ≠ 0) : fitTo zs ss (sum zs ^ ss.length) = digs zs 0 (ss.map Int.toNat) := by
  have hl : (ss.map Int.toNat).length = ss.length := by simp
  refine sorted_ext ?_ (digs_sorted _ _) fun r => ⟨fun h => ?_, fun h => ?_⟩
  · exact (List.pairwise_lt_range).sublist List.filter_sublist
  · have h2 := List.mem_filter.1 h
    have hr := List.mem_range.1 h2.1
    have hN : 1 ≤ sum zs := by
      rcases Nat.eq_zero_or_pos (sum zs) with h0 | h0
      · rw [h0, Nat.zero_pow (by omega)] at hr; omega
      · exact h0
    have h3 := (fit_iff (dig_lt hN _ r) (by rw [dig_length]) hs).1 h2.2
    have h4 := of_digs _ _ 0 h3
    have h5 : num (sum zs) (dig (sum zs) ss.length r) = r := num_dig hN _ r hr
    rw [num] at h5
    rw [h5] at h4
    exact h4
  · have h2 := digs_tuple h
    rw [hl] at h2
    exact List.mem_filter.2 ⟨List.mem_range.2 h2.2, (fit_iff h2.1.lt (by rw [dig_length]) hs).2 h2.1⟩
end Go.Proofs.Ytbddpjofhddilaa
