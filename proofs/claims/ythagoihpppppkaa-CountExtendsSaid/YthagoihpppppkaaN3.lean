/- Unary numbers, plain: the sum and the totalizer. -/
import Derived.Test.YthagoihpppppkaaN2
namespace Go.Proofs.Ythagoihpppppkaa
section
/-- The reference that is true if a unary number is at least k. -/
def reachL (u : List Int) (k : Int) : Int := if k < 1 then 0 else if (u.length : Int) < k then 1 else u.getD (k - 1).toNat 0
def reachV (v : List Bool) (k : Int) : Bool := if k < 1 then true else if (v.length : Int) < k then false else v.getD (k - 1).toNat false
theorem reach_ok {g : List Gt} (hg : Good g) {u : List Int} (hu : ∀ r ∈ u, Ok g r) (k : Int) : Ok g (reachL u k) := by
  have hp := hg.pos
  unfold reachL
  split
  · unfold Ok; omega
  · split
    · unfold Ok; omega
    · exact hu _ (getD_in (by omega))
theorem reach_val {g : List Gt} (hg : Good g) (values : List Bool) (u : List Int) (k : Int) : valC g values (reachL u k) = reachV (u.map (valC g values)) k := by
  unfold reachL reachV
  by_cases h1 : k < 1
  · rw [if_pos h1, if_pos h1]; exact val_true hg values
  · rw [if_neg h1, if_neg h1]
    by_cases h2 : (u.length : Int) < k
    · rw [if_pos h2, if_pos (by simpa using h2)]; exact val_false hg values
    · rw [if_neg h2, if_neg (by simpa using h2), getD_map (by omega)]
theorem reach_const {u : List Int} (hu : ∀ r ∈ u, r = 0 ∨ r = 1) (k : Int) : reachL u k = 0 ∨ reachL u k = 1 := by
  unfold reachL
  split
  · exact .inl rfl
  · split
    · exact .inr rfl
    · exact hu _ (getD_in (by omega))
theorem len_unary (n m : Nat) : (unary n m).length = m := by simp [unary]
theorem reach_unary {n m : Nat} (h : n ≤ m) (k : Int) : reachV (unary n m) k = decide (k ≤ (n : Int)) := by
  unfold reachV
  rw [len_unary]
  by_cases h1 : k < 1
  · rw [if_pos h1]; exact (decide_eq_true (by omega)).symm
  · rw [if_neg h1]
    by_cases h2 : (m : Int) < k
    · rw [if_pos h2]; exact (decide_eq_false (by omega)).symm
    · rw [if_neg h2]
      have hlt : (k - 1).toNat < m := by omega
      simp only [unary, List.getD_eq_getElem?_getD, List.getElem?_map, List.getElem?_range hlt, Option.map_some, Option.getD_some]
      by_cases h3 : k ≤ (n : Int)
      · rw [decide_eq_true h3]; exact decide_eq_true (by omega)
      · rw [decide_eq_false h3]; exact decide_eq_false (by omega)
/-- One place of the sum. -/
def placeP (a b : List Int) (k : Nat) : Pr Int :=
  foldP (fun r (i : Nat) => (andP (reachL a (i : Int)) (reachL b ((k : Int) - (i : Int)))).bind fun t => orP r t) (List.range' (k - b.length) (min k a.length + 1 - (k - b.length))) 1
def addP (a b : List Int) : Pr (List Int) := foldP (fun out (k : Nat) => (placeP a b k).bind fun r => .ret (out ++ [r])) (List.range' 1 (a.length + b.length)) []
theorem most_placeP (a b : List Int) (k : Nat) : (placeP a b k).most (2 * (min k a.length + 1 - (k - b.length))) := by
  have := most_foldP (f := fun r (i : Nat) => (andP (reachL a (i : Int)) (reachL b ((k : Int) - (i : Int)))).bind fun t => orP r t) (c := 2) (fun s x => Pr.most_bind (m := 1) (n := 1) (f := fun t => orP s t) (fun t => most_orP _ _) _ (most_andP _ _)) (List.range' (k - b.length) (min k a.length + 1 - (k - b.length))) 1
  rw [List.length_range'] at this
  exact this
theorem safe_placeP {gs : List Gt} (hg : Good gs) {a b : List Int} (ha : ∀ r ∈ a, Ok gs r) (hb : ∀ r ∈ b, Ok gs r) (k : Nat) (hl : gs.length + 2 * (min k a.length + 1 - (k - b.length)) ≤ 19900) :
    (placeP a b k).safe gs (fun g r => Grew gs (2 * (min k a.length + 1 - (k - b.length))) g ∧ Ok g r ∧
      ∀ values, valC g values r = (List.range' (k - b.length) (min k a.length + 1 - (k - b.length))).any (fun i => reachV (a.map (valC gs values)) (i : Int) && reachV (b.map (valC gs values)) ((k : Int) - (i : Int)))) := by
  obtain ⟨L, hL⟩ : ∃ L, List.range' (k - b.length) (min k a.length + 1 - (k - b.length)) = L := ⟨_, rfl⟩
  have hlen : L.length = min k a.length + 1 - (k - b.length) := by rw [← hL, List.length_range']
  unfold placeP
  rw [hL, ← hlen]
  rw [← hlen] at hl
  have h1 : Ok gs 1 := by have := hg.pos; unfold Ok; omega
  have hI := safe_foldP (f := fun r (i : Nat) => (andP (reachL a (i : Int)) (reachL b ((k : Int) - (i : Int)))).bind fun t => orP r t)
    (fun g j r => Grew gs (2 * j) g ∧ Ok g r ∧ ∀ values, valC g values r = (L.take j).any (fun i => reachV (a.map (valC gs values)) (i : Int) && reachV (b.map (valC gs values)) ((k : Int) - (i : Int)))) L 0 gs 1
    ⟨Grew.refl hg, h1, fun values => by rw [val_false hg]; rfl⟩ (fun j x g r hj hr => by
      obtain ⟨t1, t2, t3⟩ := hr
      have hjl := (List.getElem?_eq_some_iff.1 hj).1
      have ga : ∀ r ∈ a, Ok g r := fun r hr => t1.ok (ha r hr)
      have gb : ∀ r ∈ b, Ok g r := fun r hr => t1.ok (hb r hr)
      refine Pr.safe_bind _ (Pr.safe_mono (fun g1 t ht => ?_) _ (safe_andP t1.good (by have := t1.len; omega) (reach_ok t1.good ga _) (reach_ok t1.good gb _)))
      obtain ⟨u1, u2, u3⟩ := ht
      refine Pr.safe_mono (fun g2 q hq => ?_) _ (safe_orP u1.good (by have := t1.len; have := u1.len; omega) (u1.ok t2) u2)
      obtain ⟨v1, v2, v3⟩ := hq
      refine ⟨((t1.trans u1).trans v1).wide (by omega), v2, fun values => ?_⟩
      rw [v3, u1.val t2, t3, u3, reach_val t1.good, reach_val t1.good, t1.vals ha, t1.vals hb, Nat.zero_add, List.take_add_one, hj]
      simp [List.any_append])
  refine Pr.safe_mono (fun g r hr => ?_) _ hI
  obtain ⟨t1, t2, t3⟩ := hr
  rw [Nat.zero_add, List.take_length] at t3
  exact ⟨t1.wide (by omega), t2, t3⟩
/-- A place of the sum of two unary numbers. -/
theorem place_unary {n m la lb k : Nat} (hn : n ≤ la) (hm : m ≤ lb) (hk : k ≤ la + lb) :
    (List.range' (k - lb) (min k la + 1 - (k - lb))).any (fun i => reachV (unary n la) (i : Int) && reachV (unary m lb) ((k : Int) - (i : Int))) = decide (k ≤ n + m) := by
  by_cases h : k ≤ n + m
  · rw [decide_eq_true h, List.any_eq_true]
    refine ⟨min n k, ?_, ?_⟩
    · rw [List.mem_range'_1]; omega
    · rw [reach_unary hn, reach_unary hm, Bool.and_eq_true]
      exact ⟨decide_eq_true (by omega), decide_eq_true (by omega)⟩
  · rw [decide_eq_false h, List.any_eq_false]
    intro i hi
    rw [List.mem_range'_1] at hi
    rw [reach_unary hn, reach_unary hm]
    simp only [Bool.and_eq_true, decide_eq_true_eq]
    omega
end
section
def costL (la lb : Nat) (l : List Nat) : Nat := 2 * (l.map (fun k => min k la + 1 - (k - lb))).sum
/-- The Ands of a sum, at most. -/
def costA (la lb : Nat) : Nat := costL la lb (List.range' 1 (la + lb))
theorem costL_snoc (la lb : Nat) (l : List Nat) (k : Nat) : costL la lb (l ++ [k]) = costL la lb l + 2 * (min k la + 1 - (k - lb)) := by
  unfold costL; rw [List.map_append, List.sum_append]; simp; omega
theorem costL_take (la lb : Nat) (l : List Nat) (j : Nat) : costL la lb (l.take j) ≤ costL la lb l := by
  have h : l = l.take j ++ l.drop j := (List.take_append_drop j l).symm
  have : costL la lb l = costL la lb (l.take j) + costL la lb (l.drop j) := by
    rw [h]; unfold costL; rw [List.map_append, List.sum_append, List.take_append_drop]; omega
  omega
theorem unary_succ (n j : Nat) : unary n (j + 1) = unary n j ++ [decide (j < n)] := by simp [unary, List.range_succ]
/-- The sum: its places are references, and of unary numbers it is the unary sum. -/
theorem safe_addP {gs : List Gt} (hg : Good gs) {a b : List Int} (ha : ∀ r ∈ a, Ok gs r) (hb : ∀ r ∈ b, Ok gs r) (hl : gs.length + costA a.length b.length ≤ 19900) :
    (addP a b).safe gs (fun g t => Grew gs (costA a.length b.length) g ∧ (∀ r ∈ t, Ok g r) ∧ t.length = a.length + b.length ∧
      ∀ values n m, n ≤ a.length → m ≤ b.length → a.map (valC gs values) = unary n a.length → b.map (valC gs values) = unary m b.length → t.map (valC g values) = unary (n + m) (a.length + b.length)) := by
  obtain ⟨L, hL⟩ : ∃ L, List.range' 1 (a.length + b.length) = L := ⟨_, rfl⟩
  have hlen : L.length = a.length + b.length := by rw [← hL, List.length_range']
  have hget : ∀ (j x : Nat), L[j]? = some x → x = 1 + j ∧ j < a.length + b.length := fun j x hx => by
    have h1 := (List.getElem?_eq_some_iff.1 hx).1
    rw [hlen] at h1
    rw [← hL, List.getElem?_range' h1] at hx
    injection hx with hx
    exact ⟨by omega, h1⟩
  unfold addP
  unfold costA at hl ⊢
  rw [hL] at hl ⊢
  have hI := safe_foldP (f := fun out (k : Nat) => (placeP a b k).bind fun r => .ret (out ++ [r]))
    (fun g j out => Grew gs (costL a.length b.length (L.take j)) g ∧ (∀ r ∈ out, Ok g r) ∧ out.length = j ∧ ∀ values n m, n ≤ a.length → m ≤ b.length → a.map (valC gs values) = unary n a.length → b.map (valC gs values) = unary m b.length → out.map (valC g values) = unary (n + m) j) L 0 gs []
    ⟨Grew.refl hg, by simp, rfl, fun values n m _ _ _ _ => rfl⟩ (fun j x g out hj hr => by
      obtain ⟨t1, t2, t3, t4⟩ := hr
      obtain ⟨hx, hjl⟩ := hget j x hj
      rw [Nat.zero_add] at t1 t3 t4
      have hc : costL a.length b.length (L.take j) + 2 * (min x a.length + 1 - (x - b.length)) ≤ costL a.length b.length L := by
        have h1 := costL_take a.length b.length L (j + 1)
        rw [List.take_add_one, hj, show (some x).toList = [x] from rfl, costL_snoc] at h1
        exact h1
      have ga : ∀ r ∈ a, Ok g r := fun r hr => t1.ok (ha r hr)
      have gb : ∀ r ∈ b, Ok g r := fun r hr => t1.ok (hb r hr)
      refine Pr.safe_bind _ (Pr.safe_mono (fun g1 r hr => ?_) _ (safe_placeP t1.good ga gb x (by have := t1.len; omega)))
      obtain ⟨u1, u2, u3⟩ := hr
      refine ⟨(t1.trans u1).wide (by rw [Nat.zero_add, List.take_add_one, hj, show (some x).toList = [x] from rfl, costL_snoc]; exact Nat.le_refl _), fun r hr => ?_, by simp [t3], fun values n m hn hm ea eb => ?_⟩
      · rcases List.mem_append.1 hr with h | h
        · exact u1.ok (t2 r h)
        · rw [List.mem_singleton.1 h]; exact u2
      · rw [List.map_append, u1.vals t2, t4 values n m hn hm ea eb, Nat.zero_add, unary_succ]
        congr 1
        simp only [List.map_cons, List.map_nil]
        rw [u3, t1.vals ha, t1.vals hb, ea, eb, place_unary hn hm (by omega), hx]
        congr 1
        exact decide_eq_decide.2 (by omega))
  refine Pr.safe_mono (fun g t ht => ?_) _ hI
  obtain ⟨t1, t2, t3, t4⟩ := ht
  rw [Nat.zero_add, hlen] at t3 t4
  rw [Nat.zero_add, List.take_length] at t1
  exact ⟨t1, t2, t3, t4⟩
/-- The totalizer. -/
def totalP : Nat → List Int → Pr (List Int)
  | 0, l => .ret l
  | f + 1, l => if l.length < 2 then .ret l else (totalP f (l.take (l.length / 2))).bind fun a => (totalP f (l.drop (l.length / 2))).bind fun b => addP a b
end
section
def costT : Nat → Nat → Nat
  | 0, _ => 0
  | f + 1, n => if n < 2 then 0 else costT f (n / 2) + costT f (n - n / 2) + costA (n / 2) (n - n / 2)
theorem small_unary {v : List Bool} (h : v.length < 2) : v = unary (v.count true) v.length := by
  match v, h with
  | [], _ => rfl
  | [true], _ => rfl
  | [false], _ => rfl
theorem count_le' (v : List Bool) : v.count true ≤ v.length := List.count_le_length
theorem safe_totalP : ∀ (f : Nat) {gs : List Gt} (l : List Int), Good gs → (∀ r ∈ l, Ok gs r) → l.length ≤ 2 ^ f → gs.length + costT f l.length ≤ 19900 →
    (totalP f l).safe gs (fun g t => Grew gs (costT f l.length) g ∧ (∀ r ∈ t, Ok g r) ∧ t.length = l.length ∧ ∀ values, t.map (valC g values) = unary ((l.map (valC gs values)).count true) l.length)
  | 0, gs, l, hg, ho, hl, _ => by
    refine ⟨Grew.refl hg, ho, rfl, fun values => ?_⟩
    have := small_unary (v := l.map (valC gs values)) (by rw [List.length_map]; simp at hl; omega)
    rw [List.length_map] at this
    exact this
  | f + 1, gs, l, hg, ho, hl, hc => by
    unfold totalP
    by_cases h2 : l.length < 2
    · rw [if_pos h2]
      refine ⟨(Grew.refl hg).wide (Nat.zero_le _), ho, rfl, fun values => ?_⟩
      have := small_unary (v := l.map (valC gs values)) (by rw [List.length_map]; exact h2)
      rw [List.length_map] at this
      exact this
    · rw [if_neg h2]
      obtain ⟨h, hh⟩ : ∃ h, l.length / 2 = h := ⟨_, rfl⟩
      have hcost : costT (f + 1) l.length = costT f h + costT f (l.length - h) + costA h (l.length - h) := by
        show (if l.length < 2 then 0 else _) = _
        rw [if_neg h2, hh]
      rw [hcost] at hc ⊢
      rw [hh]
      have hp : 2 ^ (f + 1) = 2 * 2 ^ f := by rw [Nat.pow_succ]; omega
      have l1 : (l.take h).length = h := by rw [List.length_take]; omega
      have l2 : (l.drop h).length = l.length - h := List.length_drop
      have o1 : ∀ r ∈ l.take h, Ok gs r := fun r hr => ho r (List.mem_of_mem_take hr)
      have o2 : ∀ r ∈ l.drop h, Ok gs r := fun r hr => ho r (List.mem_of_mem_drop hr)
      have s1 := safe_totalP f (l.take h) hg o1 (by rw [l1]; omega) (by rw [l1]; omega)
      rw [l1] at s1
      refine Pr.safe_bind _ (Pr.safe_mono (fun g a hA => ?_) _ s1)
      obtain ⟨a1, a2, a3, a4⟩ := hA
      have s2 := safe_totalP f (l.drop h) a1.good (fun r hr => a1.ok (o2 r hr)) (by rw [l2]; omega) (by rw [l2]; have := a1.len; omega)
      rw [l2] at s2
      refine Pr.safe_bind _ (Pr.safe_mono (fun g1 b hB => ?_) _ s2)
      obtain ⟨b1, b2, b3, b4⟩ := hB
      have s3 := safe_addP b1.good (fun r hr => b1.ok (a2 r hr)) b2 (by rw [a3, b3]; have := a1.len; have := b1.len; omega)
      rw [a3, b3] at s3
      refine Pr.safe_mono (fun g2 t hT => ?_) _ s3
      obtain ⟨t1, t2, t3, t4⟩ := hT
      refine ⟨((a1.trans b1).trans t1).wide (Nat.le_refl _), t2, by rw [t3]; omega, fun values => ?_⟩
      have c1 := count_le' ((l.take h).map (valC gs values))
      have c2 := count_le' ((l.drop h).map (valC gs values))
      rw [List.length_map, l1] at c1
      rw [List.length_map, l2] at c2
      have hb4 := b4 values
      rw [a1.vals o2] at hb4
      rw [t4 values _ _ c1 c2 (by rw [b1.vals a2]; exact a4 values) hb4]
      congr 1
      · rw [← List.count_append, ← List.map_append, List.take_append_drop]
      · omega
/-- a < b + by. -/
def lessP (a b : List Int) (by' : Int) : Pr Int :=
  foldP (fun r (j : Nat) => (andP (reachL b (j : Int)) (notR (reachL a ((j : Int) + by')))).bind fun t => orP r t) (List.range (b.length + 1)) 1
theorem safe_lessP {gs : List Gt} (hg : Good gs) {a b : List Int} (ha : ∀ r ∈ a, Ok gs r) (hb : ∀ r ∈ b, Ok gs r) (d : Int) (hl : gs.length + 2 * (b.length + 1) ≤ 19900) :
    (lessP a b d).safe gs (fun g r => Grew gs (2 * (b.length + 1)) g ∧ Ok g r ∧
      ∀ values, valC g values r = (List.range (b.length + 1)).any (fun (j : Nat) => reachV (b.map (valC gs values)) (j : Int) && !reachV (a.map (valC gs values)) ((j : Int) + d))) := by
  obtain ⟨L, hL⟩ : ∃ L, List.range (b.length + 1) = L := ⟨_, rfl⟩
  have hlen : L.length = b.length + 1 := by rw [← hL, List.length_range]
  unfold lessP
  rw [hL]
  have h1 : Ok gs 1 := by have := hg.pos; unfold Ok; omega
  have hI := safe_foldP (f := fun r (j : Nat) => (andP (reachL b (j : Int)) (notR (reachL a ((j : Int) + d)))).bind fun t => orP r t)
    (fun g j r => Grew gs (2 * j) g ∧ Ok g r ∧ ∀ values, valC g values r = (L.take j).any (fun (j : Nat) => reachV (b.map (valC gs values)) (j : Int) && !reachV (a.map (valC gs values)) ((j : Int) + d))) L 0 gs 1
    ⟨Grew.refl hg, h1, fun values => by rw [val_false hg]; rfl⟩ (fun j x g r hj hr => by
      obtain ⟨t1, t2, t3⟩ := hr
      have hjl := (List.getElem?_eq_some_iff.1 hj).1
      have ga : ∀ r ∈ a, Ok g r := fun r hr => t1.ok (ha r hr)
      have gb : ∀ r ∈ b, Ok g r := fun r hr => t1.ok (hb r hr)
      have ka := reach_ok t1.good ga ((x : Int) + d)
      refine Pr.safe_bind _ (Pr.safe_mono (fun g1 t ht => ?_) _ (safe_andP t1.good (by have := t1.len; omega) (reach_ok t1.good gb _) (notR_ok ka)))
      obtain ⟨u1, u2, u3⟩ := ht
      refine Pr.safe_mono (fun g2 q hq => ?_) _ (safe_orP u1.good (by have := t1.len; have := u1.len; omega) (u1.ok t2) u2)
      obtain ⟨v1, v2, v3⟩ := hq
      refine ⟨((t1.trans u1).trans v1).wide (by omega), v2, fun values => ?_⟩
      rw [v3, u1.val t2, t3, u3, val_not ka, reach_val t1.good, reach_val t1.good, t1.vals ha, t1.vals hb, Nat.zero_add, List.take_add_one, hj]
      simp [List.any_append])
  refine Pr.safe_mono (fun g r hr => ?_) _ hI
  obtain ⟨t1, t2, t3⟩ := hr
  rw [Nat.zero_add, List.take_length] at t3
  exact ⟨t1.wide (by omega), t2, t3⟩
/-- Of unary numbers it says a < b + d. -/
theorem less_unary {n m la lb : Nat} (hn : n ≤ la) (hm : m ≤ lb) (d : Int) :
    (List.range (lb + 1)).any (fun (j : Nat) => reachV (unary m lb) (j : Int) && !reachV (unary n la) ((j : Int) + d)) = decide ((n : Int) < (m : Int) + d) := by
  by_cases h : (n : Int) < (m : Int) + d
  · rw [decide_eq_true h, List.any_eq_true]
    refine ⟨m, List.mem_range.2 (by omega), ?_⟩
    rw [reach_unary hn, reach_unary hm, Bool.and_eq_true]
    exact ⟨decide_eq_true (by omega), by rw [decide_eq_false (by omega)]; rfl⟩
  · rw [decide_eq_false h, List.any_eq_false]
    intro j hj
    have := List.mem_range.1 hj
    rw [reach_unary hn, reach_unary hm]
    simp only [Bool.and_eq_true, decide_eq_true_eq, Bool.not_eq_true', decide_eq_false_iff_not]
    omega
end
section
theorem most_addP (a b : List Int) : (addP a b).most ((2 * (a.length + 1)) * (a.length + b.length)) := by
  have := most_foldP (f := fun out (k : Nat) => (placeP a b k).bind fun r => .ret (out ++ [r])) (c := 2 * (a.length + 1)) (fun s x => by
    have h := Pr.most_bind (n := 0) (f := fun r => Pr.ret (s ++ [r])) (fun r => trivial) _ (most_placeP a b x)
    exact Pr.most_mono _ (by have := Nat.min_le_right x a.length; omega) h) (List.range' 1 (a.length + b.length)) []
  rw [List.length_range'] at this
  exact this
theorem most_lessP (a b : List Int) (d : Int) : (lessP a b d).most (2 * (b.length + 1)) := by
  have := most_foldP (f := fun r (j : Nat) => (andP (reachL b (j : Int)) (notR (reachL a ((j : Int) + d)))).bind fun t => orP r t) (c := 2) (fun s x => Pr.most_bind (m := 1) (n := 1) (f := fun t => orP s t) (fun t => most_orP _ _) _ (most_andP _ _)) (List.range (b.length + 1)) 1
  rw [List.length_range] at this
  exact this
theorem cst_placeP {a b : List Int} (ha : ∀ r ∈ a, r = 0 ∨ r = 1) (hb : ∀ r ∈ b, r = 0 ∨ r = 1) (k : Nat) : (placeP a b k).cst (fun r => r = 0 ∨ r = 1) :=
  cst_foldP (I := fun r => r = 0 ∨ r = 1) (fun _ _ hs => Pr.cst_bind _ (Pr.cst_mono (fun _ ht => cst_orP hs ht) _ (cst_andP (reach_const ha _) (reach_const hb _)))) _ _ (.inr rfl)
theorem cst_addP {a b : List Int} (ha : ∀ r ∈ a, r = 0 ∨ r = 1) (hb : ∀ r ∈ b, r = 0 ∨ r = 1) : (addP a b).cst (fun t => ∀ r ∈ t, r = 0 ∨ r = 1) :=
  cst_foldP (I := fun t => ∀ r ∈ t, r = 0 ∨ r = 1) (fun s x hs => Pr.cst_bind _ (Pr.cst_mono (fun q hq => by
    intro r hr
    rcases List.mem_append.1 hr with h | h
    · exact hs r h
    · rw [List.mem_singleton.1 h]; exact hq) _ (cst_placeP ha hb x))) _ _ (by simp)
theorem cst_lessP {a b : List Int} (ha : ∀ r ∈ a, r = 0 ∨ r = 1) (hb : ∀ r ∈ b, r = 0 ∨ r = 1) (d : Int) : (lessP a b d).cst (fun r => r = 0 ∨ r = 1) :=
  cst_foldP (I := fun r => r = 0 ∨ r = 1) (fun _ _ hs => Pr.cst_bind _ (Pr.cst_mono (fun _ ht => cst_orP hs ht) _ (cst_andP (reach_const hb _) (not_const (reach_const ha _))))) _ _ (.inr rfl)
def Consts (t : List Int) : Prop := ∀ r ∈ t, r = 0 ∨ r = 1
theorem cst_addC {a b : List Int} (ha : Consts a) (hb : Consts b) : (addP a b).cst Consts := cst_addP ha hb
theorem cst_totalP : ∀ (f : Nat) (l : List Int), Consts l → (totalP f l).cst Consts
  | 0, _, h => h
  | f + 1, l, h => by
    have c1 := cst_totalP f (l.take (l.length / 2)) (fun r hr => h r (List.mem_of_mem_take hr))
    have c2 := cst_totalP f (l.drop (l.length / 2)) (fun r hr => h r (List.mem_of_mem_drop hr))
    unfold totalP
    by_cases h2 : l.length < 2
    · rw [if_pos h2]; exact h
    · rw [if_neg h2]
      refine Pr.cst_bind (Q := Consts) _ ?_
      refine Pr.cst_mono (Q := Consts) (R := fun a => ((totalP f (l.drop (l.length / 2))).bind fun b => addP a b).cst Consts) (fun a ha => ?_) _ c1
      refine Pr.cst_bind (Q := Consts) _ ?_
      exact Pr.cst_mono (Q := Consts) (R := fun b => (addP a b).cst Consts) (fun b hb => cst_addC ha hb) _ c2
end
section
/-- One place of the reference's sum: i from 0 on, places outside are left out. -/
def mplaceP (a b : List Int) (k : Nat) : Pr Int :=
  foldP (fun r (i : Nat) => if k < i ∨ b.length + i < k then .ret r else (andP (reachL a (i : Int)) (reachL b ((k : Int) - (i : Int)))).bind fun t => orP r t) (List.range (a.length + 1)) 1
def mergeP (a b : List Int) : Pr (List Int) := foldP (fun out (k : Nat) => (mplaceP a b k).bind fun r => .ret (out ++ [r])) (List.range' 1 (a.length + b.length)) []
theorem foldP_skip {σ β : Type} (f : σ → β → Pr σ) (q : β → Bool) : ∀ (l : List β) (s : σ), foldP (fun s x => if q x = true then Pr.ret s else f s x) l s = foldP f (l.filter fun x => !q x) s
  | [], _ => rfl
  | x :: l, s => by
    by_cases h : q x = true
    · rw [List.filter_cons_of_neg (by simp [h])]
      show ((if q x = true then Pr.ret s else f s x).bind _) = _
      rw [if_pos h]
      exact foldP_skip f q l s
    · rw [List.filter_cons_of_pos (by simpa using h)]
      show ((if q x = true then Pr.ret s else f s x).bind _) = (f s x).bind _
      rw [if_neg h]
      congr 1
      funext s'
      exact foldP_skip f q l s'
/-- It is the program's. -/
theorem range_cut (la lb k : Nat) : (List.range (la + 1)).filter (fun i => !decide (k < i ∨ lb + i < k)) = List.range' (k - lb) (min k la + 1 - (k - lb)) := by
  induction la with
  | zero =>
    simp only [Nat.zero_add, List.range_one]
    by_cases h : k < 0 ∨ lb + 0 < k
    · rw [List.filter_cons_of_neg (by simpa using h)]
      rw [show min k 0 + 1 - (k - lb) = 0 by omega]; rfl
    · rw [List.filter_cons_of_pos (by simpa using h), show min k 0 + 1 - (k - lb) = 1 by omega, show k - lb = 0 by omega]; rfl
  | succ n ih =>
    rw [List.range_succ, List.filter_append, ih]
    by_cases h : k < n + 1 ∨ lb + (n + 1) < k
    · rw [List.filter_cons_of_neg (by rw [decide_eq_true h]; simp), List.filter_nil, List.append_nil]
      congr 1; omega
    · rw [List.filter_cons_of_pos (by rw [decide_eq_false h]; rfl), List.filter_nil]
      rw [show min k (n + 1) + 1 - (k - lb) = (min k n + 1 - (k - lb)) + 1 by omega, List.range'_concat]
      congr 2; omega
theorem mplace_eq (a b : List Int) (k : Nat) : mplaceP a b k = placeP a b k := by
  unfold mplaceP placeP
  have h := foldP_skip (fun r (i : Nat) => (andP (reachL a (i : Int)) (reachL b ((k : Int) - (i : Int)))).bind fun t => orP r t) (fun i => decide (k < i ∨ b.length + i < k)) (List.range (a.length + 1)) 1
  rw [range_cut] at h
  simpa only [decide_eq_true_eq] using h
theorem merge_eq (a b : List Int) : mergeP a b = addP a b := by
  unfold mergeP addP
  congr 1
  funext out k
  rw [mplace_eq]
end
end Go.Proofs.Ythagoihpppppkaa
