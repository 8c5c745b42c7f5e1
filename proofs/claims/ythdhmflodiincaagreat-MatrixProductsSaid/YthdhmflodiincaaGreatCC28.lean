/- Texts of the proof: UO UQ UR YC. -/
import Derived.Test.YthdhmflodiincaaGreatCC24
import Derived.Test.YthdhmflodiincaaGreatCC22
import Derived.Test.YthdhmflodiincaaGreatCC23
import Derived.Test.YthdhmflodiincaaGreatCC26
import Derived.Test.YthdhmflodiincaaGreatCC27
set_option maxRecDepth 100000
set_option maxHeartbeats 8000000
namespace Go.Proofs.YthdhmflodiincaaGreat

abbrev Hs (L : List Int) (z : Nat) : Prop := ((z : Nat) : Int) ∈ L
theorem pair_of {q z p : Nat} (hq : 0 < q) (h : z < p * q) : ∃ u v, u < p ∧ v < q ∧ z = u * q + v :=
 ⟨z / q, z % q, Nat.div_lt_of_lt_mul (by rw [Nat.mul_comm]; exact h), Nat.mod_lt _ hq, by rw [Nat.mul_comm]; exact (Nat.div_add_mod z q).symm⟩
theorem pair_div {q u v : Nat} (hv : v < q) : (u * q + v) / q = u := by rw [Nat.mul_comm, Nat.mul_add_div (by omega), Nat.div_eq_of_lt hv, Nat.add_zero]
theorem pair_mod {q u v : Nat} (hv : v < q) : (u * q + v) % q = v := by rw [Nat.mul_comm, Nat.mul_add_mod, Nat.mod_eq_of_lt hv]
theorem pair_inj {q u v u' v' : Nat} (hv : v < q) (hv' : v' < q) (h : u * q + v = u' * q + v') : u = u' ∧ v = v' := by
 have h1 := congrArg (· / q) h
 have h2 := congrArg (· % q) h
 simp only [pair_div hv, pair_div hv', pair_mod hv, pair_mod hv'] at h1 h2
 exact ⟨h1, h2⟩
theorem val_pairs {n : Nat} {g : List Gt} {m : List Cl} (hs : Sq n g m) (v : List Bool) : ∀ z ∈ valL g v m, ∃ x y, x < n ∧ y < n ∧ z = ((x * n + y : Nat) : Int) := fun z hz => by
 unfold valL at hz
 obtain ⟨c, hc, rfl⟩ := List.mem_map.1 hz
 obtain ⟨h0, h1⟩ := hs.2 c (List.mem_filter.1 hc).1
 obtain ⟨k, hk⟩ : ∃ k : Nat, c.1 = (k : Int) := ⟨c.1.toNat, by omega⟩
 have hk2 : k < n * n := by rw [hk] at h1; exact_mod_cast h1
 obtain ⟨x, y, hx, hy, e⟩ := pair_of (by rcases Nat.eq_zero_or_pos n with rfl | h; omega; exact h) hk2
 exact ⟨x, y, hx, hy, by rw [hk, e]⟩

theorem pairs_ext {n : Nat} {A B : List Int} (uA : Up A) (uB : Up B) (hA : ∀ z ∈ A, ∃ u v, u < n ∧ v < n ∧ z = ((u * n + v : Nat) : Int)) (hB : ∀ z ∈ B, ∃ u v, u < n ∧ v < n ∧ z = ((u * n + v : Nat) : Int))
  (h : ∀ x y, x < n → y < n → (Hs A (x * n + y) ↔ Hs B (x * n + y))) : A = B := up_ext uA uB fun z => by
 constructor
 ·
  intro hz
  obtain ⟨x, y, hx, hy, rfl⟩ := hA z hz
  exact (h x y hx hy).1 hz
 ·
  intro hz
  obtain ⟨x, y, hx, hy, rfl⟩ := hB z hz
  exact (h x y hx hy).2 hz
theorem turn_pair {n x y : Nat} (hy : y < n) : ((x * n + y : Nat) : Int) % (n : Int) * n + ((x * n + y : Nat) : Int) / n = ((y * n + x : Nat) : Int) := by
 have h1 : (x * n + y) % n = y := pair_mod hy
 have h2 : (x * n + y) / n = x := pair_div hy
 have h : (((x * n + y) % n * n + (x * n + y) / n : Nat) : Int) = ((y * n + x : Nat) : Int) := by rw [h1, h2]
 rw [← h]
 simp
theorem hs_turnL {n : Nat} {A : List Int} (hA : ∀ z ∈ A, ∃ u v, u < n ∧ v < n ∧ z = ((u * n + v : Nat) : Int)) {x y : Nat} (hx : x < n) (hy : y < n) : Hs (uniq (turnL n A)) (x * n + y) ↔ Hs A (y * n + x) := by
 rw [Hs, mem_uniq]
 unfold turnL
 rw [List.mem_map]
 constructor
 ·
  rintro ⟨z, hz, e⟩
  obtain ⟨u, v, hu, hv, rfl⟩ := hA z hz
  rw [turn_pair hv] at e
  obtain ⟨rfl, rfl⟩ := pair_inj hu hy (by omega : v * n + u = x * n + y)
  exact hz
 ·
  intro h
  exact ⟨_, h, turn_pair hx⟩
theorem turn_pairs {n : Nat} {A : List Int} (hA : ∀ z ∈ A, ∃ u v, u < n ∧ v < n ∧ z = ((u * n + v : Nat) : Int)) : ∀ z ∈ uniq (turnL n A), ∃ u v, u < n ∧ v < n ∧ z = ((u * n + v : Nat) : Int) := fun z hz => by
 rw [mem_uniq] at hz
 unfold turnL at hz
 obtain ⟨a, ha, rfl⟩ := List.mem_map.1 hz
 obtain ⟨u, v, hu, hv, rfl⟩ := hA a ha
 exact ⟨v, u, hv, hu, turn_pair hv⟩

theorem turnM_rank {n : Nat} {g : List Gt} {A : List Cl} (hs : Sq n g A) : ∀ c ∈ turnM n A, ∃ x y, x < n ∧ y < n ∧ c.1 = ((y * n + x : Nat) : Int) ∧ (((x * n + y : Nat) : Int), c.2) ∈ A := fun c hc => by
 unfold turnM at hc
 obtain ⟨d, hd, rfl⟩ := List.mem_map.1 hc
 obtain ⟨h0, h1⟩ := hs.2 d hd
 obtain ⟨k, hk⟩ : ∃ k : Nat, d.1 = (k : Int) := ⟨d.1.toNat, by omega⟩
 have hk2 : k < n * n := by rw [hk] at h1; exact_mod_cast h1
 obtain ⟨x, y, hx, hy, e⟩ := pair_of (by rcases Nat.eq_zero_or_pos n with rfl | h; omega; exact h) hk2
 refine ⟨x, y, hx, hy, ?_, ?_⟩
 ·
  show d.1 % (n : Int) * n + d.1 / n = _
  rw [hk, e, turn_pair hy]
 ·
  rw [← e, ← hk]
  exact hd
theorem sq_pair {n : Nat} {g : List Gt} {A : List Cl} (hs : Sq n g A) : ∀ c ∈ A, ∃ x y, x < n ∧ y < n ∧ c.1 = ((x * n + y : Nat) : Int) := fun c hc => by
 obtain ⟨h0, h1⟩ := hs.2 c hc
 obtain ⟨k, hk⟩ : ∃ k : Nat, c.1 = (k : Int) := ⟨c.1.toNat, by omega⟩
 have hk2 : k < n * n := by rw [hk] at h1; exact_mod_cast h1
 obtain ⟨x, y, hx, hy, e⟩ := pair_of (by rcases Nat.eq_zero_or_pos n with rfl | h; omega; exact h) hk2
 exact ⟨x, y, hx, hy, by rw [hk, e]⟩
theorem turnM_up {n : Nat} {g : List Gt} {A l : List Cl} (hs : Sq n g A) (hp : l.Perm (turnM n A)) (hl : SortedCl l) : UpM l := by
 have hnd : (l.map (·.1)).Nodup := by
  refine (hp.map (·.1)).symm.nodup ?_
  unfold turnM
  rw [List.map_map]
  refine List.pairwise_map.2 ?_
  have hA : A.Pairwise fun a b => a.1 < b.1 := List.pairwise_map.1 hs.1.1
  refine hA.imp_of_mem fun {a b} ha hb hab e => ?_
  obtain ⟨x, y, hx, hy, ea⟩ := sq_pair hs a ha
  obtain ⟨u, v, hu, hv, eb⟩ := sq_pair hs b hb
  simp only [Function.comp_apply] at e
  rw [ea, eb, turn_pair hy, turn_pair hv] at e
  obtain ⟨rfl, rfl⟩ := pair_inj hx hu (by omega : y * n + x = v * n + u)
  omega
 unfold UpM
 refine List.pairwise_map.2 ((hl.and (List.pairwise_map.1 hnd)).imp fun {a b} h => ?_)
 have h1 := h.1
 have h2 := h.2
 omega
theorem turnM_sq {n : Nat} {g : List Gt} {A l : List Cl} (hs : Sq n g A) (hp : l.Perm (turnM n A)) (hl : SortedCl l) : Sq n g l := by
 have key : ∀ c ∈ l, ∃ x y, x < n ∧ y < n ∧ c.1 = ((y * n + x : Nat) : Int) ∧ (((x * n + y : Nat) : Int), c.2) ∈ A := fun c hc => turnM_rank hs c (hp.mem_iff.1 hc)
 refine ⟨⟨turnM_up hs hp hl, fun c hc => ?_⟩, fun c hc => ?_⟩
 ·
  obtain ⟨x, y, _, _, _, h⟩ := key c hc
  exact hs.1.2 (((x * n + y : Nat) : Int), c.2) h
 ·
  obtain ⟨x, y, hx, hy, e, _⟩ := key c hc
  have h1 : y * n + x < n * n := by have h2 : (y + 1) * n ≤ n * n := Nat.mul_le_mul_right _ hy; rw [Nat.succ_mul] at h2; omega
  rw [e]
  exact ⟨Int.natCast_nonneg _, by exact_mod_cast h1⟩
theorem val_turn {n : Nat} {g : List Gt} {A l : List Cl} (_hG : Good g) (hs : Sq n g A) (hp : l.Perm (turnM n A)) (hl : SortedCl l) (v : List Bool) : valL g v l = uniq (turnL n (valL g v A)) := by
 have hq := turnM_sq hs hp hl
 refine pairs_ext (val_up hq.1.1 v) (uniq_up _) (val_pairs hq v) (turn_pairs (val_pairs hs v)) fun x y hx hy => ?_
 rw [hs_turnL (val_pairs hs v) hx hy]
 unfold Hs valL
 simp only [List.mem_map, List.mem_filter]
 constructor
 ·
  rintro ⟨c, ⟨hc, hv⟩, e⟩
  obtain ⟨a, b, ha, hb, e1, h⟩ := turnM_rank hs c (hp.mem_iff.1 hc)
  rw [e1] at e
  obtain ⟨rfl, rfl⟩ := pair_inj ha hy (by omega : b * n + a = x * n + y)
  exact ⟨_, ⟨h, hv⟩, rfl⟩
 ·
  rintro ⟨c, ⟨hc, hv⟩, e⟩
  refine ⟨(c.1 % (n : Int) * n + c.1 / n, c.2), ⟨hp.mem_iff.2 (List.mem_map.2 ⟨c, hc, rfl⟩), hv⟩, ?_⟩
  show c.1 % (n : Int) * n + c.1 / n = _
  rw [e, turn_pair hx]

theorem mem_val {g : List Gt} {v : List Bool} {m : List Cl} {z : Int} : z ∈ valL g v m ↔ ∃ c ∈ m, valC g v c.2 = true ∧ c.1 = z := by
 unfold valL
 rw [List.mem_map]
 constructor
 ·
  rintro ⟨c, hc, e⟩
  rw [List.mem_filter] at hc
  exact ⟨c, hc.1, hc.2, e⟩
 ·
  rintro ⟨c, hc, h, e⟩
  exact ⟨c, List.mem_filter.2 ⟨hc, h⟩, e⟩
theorem mem_joinQ {n r : Nat} {A B : List Int} {z : Int} : z ∈ joinP n r A B ↔ ∃ x ∈ A, ∃ y ∈ B, x % (n : Int) = y / (r : Int) ∧ z = x / (n : Int) * (r : Int) + y % (r : Int) := by
 unfold joinP
 rw [List.mem_flatMap]
 constructor
 ·
  rintro ⟨x, hx, h⟩
  unfold meetRow at h
  rw [List.mem_filterMap] at h
  obtain ⟨y, hy, h⟩ := h
  split at h
  ·
   rename_i e
   injection h with h
   exact ⟨x, hx, y, hy, e, h.symm⟩
  · cases h
 ·
  rintro ⟨x, hx, y, hy, e, rfl⟩
  refine ⟨x, hx, ?_⟩
  unfold meetRow
  rw [List.mem_filterMap]
  exact ⟨y, hy, if_pos e⟩
theorem jr_lt {n k j : Nat} {a b : List Cl} (hn : 1 ≤ n) (hk : 1 ≤ k) (hj : 1 ≤ j) (ra : ∀ c ∈ a, 0 ≤ c.1 ∧ c.1 < ((n ^ k : Nat) : Int)) (rb : ∀ c ∈ b, 0 ≤ c.1 ∧ c.1 < ((n ^ j : Nat) : Int)) :
  ∀ p ∈ jPairs (n : Int) ((n ^ (j - 1) : Nat) : Int) a b, 0 ≤ jr (n : Int) ((n ^ (j - 1) : Nat) : Int) p ∧ jr (n : Int) ((n ^ (j - 1) : Nat) : Int) p < ((n ^ (k + j - 2) : Nat) : Int) := fun p hp => by
 obtain ⟨h1, h2⟩ := mem_pairs.1 (List.mem_filter.1 hp).1
 obtain ⟨a0, a1⟩ := ra _ h1
 obtain ⟨b0, b1⟩ := rb _ h2
 obtain ⟨x, hx⟩ : ∃ z : Nat, p.1.1 = (z : Int) := ⟨p.1.1.toNat, by omega⟩
 obtain ⟨y, hy⟩ : ∃ z : Nat, p.2.1 = (z : Int) := ⟨p.2.1.toNat, by omega⟩
 have hr : 1 ≤ n ^ (j - 1) := Nat.one_le_pow _ _ hn
 have hx1 : x < n ^ k := by rw [hx] at a1; exact_mod_cast a1
 have e : jr (n : Int) ((n ^ (j - 1) : Nat) : Int) p = ((x / n * n ^ (j - 1) + y % n ^ (j - 1) : Nat) : Int) := by
  unfold jr
  rw [hx, hy]
  push_cast
  rfl
 rw [e]
 refine ⟨Int.natCast_nonneg _, ?_⟩
 have e1 : n ^ k = n * n ^ (k - 1) := by rw [← Nat.pow_succ']; congr 1; omega
 have h3 : x / n < n ^ (k - 1) := Nat.div_lt_of_lt_mul (by rw [← e1]; exact hx1)
 have h4 : y % n ^ (j - 1) < n ^ (j - 1) := Nat.mod_lt _ (by omega)
 have e2 : n ^ (k + j - 2) = n ^ (k - 1) * n ^ (j - 1) := by rw [← Nat.pow_add]; congr 1; omega
 have h5 : (x / n + 1) * n ^ (j - 1) ≤ n ^ (k - 1) * n ^ (j - 1) := Nat.mul_le_mul_right _ h3
 rw [Nat.succ_mul] at h5
 rw [e2]
 exact_mod_cast (by omega : x / n * n ^ (j - 1) + y % n ^ (j - 1) < n ^ (k - 1) * n ^ (j - 1))
theorem mjoin_val {n k j : Nat} {gs g : List Gt} {a b m : List Cl} (hG : Good gs) (ha : Mat gs a) (hb : Mat gs b) (hl : gs.length + 2 * (a.length * b.length) ≤ 19900) (hn : 1 ≤ n) (hk : 1 ≤ k) (hj : 1 ≤ j)
  (ra : ∀ c ∈ a, 0 ≤ c.1 ∧ c.1 < ((n ^ k : Nat) : Int)) (rb : ∀ c ∈ b, 0 ≤ c.1 ∧ c.1 < ((n ^ j : Nat) : Int)) (v : List Bool)
  (e : (mjoinP (n : Int) ((n ^ (j - 1) : Nat) : Int) (n ^ (k + j - 2)) a b).run gs = (g, m)) :
  Good g ∧ g.length ≤ gs.length + 2 * (a.length * b.length) ∧ Mat g m ∧ (∀ c ∈ m, 0 ≤ c.1 ∧ c.1 < ((n ^ (k + j - 2) : Nat) : Int)) ∧ valL g v m = uniq (joinP n (n ^ (j - 1)) (valL gs v a) (valL gs v b)) := by
 have h := Pr.safe_run _ (safe_mjoinP (n := (n : Int)) (rest := ((n ^ (j - 1) : Nat) : Int)) (total := n ^ (k + j - 2)) hG ha hb hl)
 rw [e] at h
 simp only at h
 have hM : Mat g m := h.mat (ranksTo_up _)
 refine ⟨h.grew.good, h.grew.len, hM, fun c hc => mem_ranksTo.1 (h.up.mem (List.mem_map_of_mem hc)), up_ext (val_up hM.1 v) (uniq_up _) fun z => ?_⟩
 rw [mem_valL h.grew.good hM.1 v z, mem_uniq, mem_joinQ, show hasV g v m z = _ from h.val v z, Bool.and_eq_true, decide_eq_true_iff, List.any_eq_true]
 constructor
 ·
  rintro ⟨_, p, hp, h9⟩
  rw [Bool.and_eq_true, Bool.and_eq_true, decide_eq_true_iff] at h9
  obtain ⟨h1, h2⟩ := mem_pairs.1 (List.mem_filter.1 hp).1
  have h3 : (p.1.1 % (n : Int) == p.2.1 / ((n ^ (j - 1) : Nat) : Int)) = true := (List.mem_filter.1 hp).2
  exact ⟨p.1.1, mem_val.2 ⟨_, h1, h9.2.1, rfl⟩, p.2.1, mem_val.2 ⟨_, h2, h9.2.2, rfl⟩, by simpa using h3, h9.1.symm⟩
 ·
  rintro ⟨x, hx, y, hy, e1, e2⟩
  obtain ⟨c, hc, c1, rfl⟩ := mem_val.1 hx
  obtain ⟨d, hd, d1, rfl⟩ := mem_val.1 hy
  have hp : (c, d) ∈ jPairs (n : Int) ((n ^ (j - 1) : Nat) : Int) a b := List.mem_filter.2 ⟨mem_pairs.2 ⟨hc, hd⟩, by simpa using e1⟩
  have hb9 := jr_lt hn hk hj ra rb _ hp
  have e3 : jr (n : Int) ((n ^ (j - 1) : Nat) : Int) (c, d) = z := e2.symm
  rw [e3] at hb9
  exact ⟨mem_ranksTo.2 hb9, (c, d), hp, by rw [Bool.and_eq_true, Bool.and_eq_true, decide_eq_true_iff]; exact ⟨e3, c1, d1⟩⟩
theorem mem_prodL {P : Nat} {A B : List Int} {z : Int} : z ∈ prodL P A B ↔ ∃ x ∈ A, ∃ y ∈ B, z = x * (P : Int) + y := by
 unfold prodL rowP
 rw [List.mem_flatMap]
 constructor
 ·
  rintro ⟨x, hx, h⟩
  obtain ⟨y, hy, e⟩ := List.mem_map.1 h
  exact ⟨x, hx, y, hy, e.symm⟩
 ·
  rintro ⟨x, hx, y, hy, e⟩
  exact ⟨x, hx, List.mem_map.2 ⟨y, hy, e.symm⟩⟩
theorem prodL_up {P : Nat} {A B : List Int} (hA : Up A) (hB : Up B) (hy : ∀ y ∈ B, 0 ≤ y ∧ y < (P : Int)) : Up (prodL P A B) := by
 have up : ∀ {l : List Int}, Up l → UpM (l.map fun z => ((z, 0) : Cl)) := fun {l} h => by
  unfold UpM
  rw [List.map_map]
  have e : ((fun c : Cl => c.1) ∘ fun z : Int => ((z, 0) : Cl)) = id := rfl
  rw [e, List.map_id]
  exact h
 have h := prod_up (p := (P : Int)) (up hA) (up hB) (fun c hc => by obtain ⟨z, hz, rfl⟩ := List.mem_map.1 hc; exact hy z hz)
 have e : prodRanks (P : Int) (A.map fun z => ((z, 0) : Cl)) (B.map fun z => ((z, 0) : Cl)) = prodL P A B := by
  unfold prodRanks allPairs prodL rowP
  rw [List.map_flatMap, List.flatMap_map]
  congr 1
  funext x
  rw [List.map_map, List.map_map]
  rfl
 rw [← e]
 exact h
theorem mprod_val {n k j : Nat} {gs g : List Gt} {a b m : List Cl} (hG : Good gs) (ha : Mat gs a) (hb : Mat gs b) (hl : gs.length + a.length * b.length ≤ 19900)
  (ra : ∀ c ∈ a, 0 ≤ c.1 ∧ c.1 < ((n ^ k : Nat) : Int)) (rb : ∀ c ∈ b, 0 ≤ c.1 ∧ c.1 < ((n ^ j : Nat) : Int)) (v : List Bool)
  (e : (mprodP ((n ^ j : Nat) : Int) a b).run gs = (g, m)) :
  Good g ∧ g.length ≤ gs.length + a.length * b.length ∧ Mat g m ∧ (∀ c ∈ m, 0 ≤ c.1) ∧ valL g v m = prodL (n ^ j) (valL gs v a) (valL gs v b) := by
 have h := Pr.safe_run _ (safe_mprodP (p := ((n ^ j : Nat) : Int)) hG ha hb rb hl)
 rw [e] at h
 simp only at h
 have hM : Mat g m := h.mat (prod_up ha.1 hb.1 rb)
 have hrb : ∀ y ∈ valL gs v b, 0 ≤ y ∧ y < ((n ^ j : Nat) : Int) := fun y hy => by obtain ⟨c, hc, _, rfl⟩ := mem_val.1 hy; exact rb c hc
 refine ⟨h.grew.good, h.grew.len, hM, fun c hc => ?_, up_ext (val_up hM.1 v) (prodL_up (val_up ha.1 v) (val_up hb.1 v) hrb) fun z => ?_⟩
 ·
  have h1 := h.up.mem (List.mem_map_of_mem hc)
  unfold prodRanks at h1
  obtain ⟨p, hp, e1⟩ := List.mem_map.1 h1
  obtain ⟨h2, h3⟩ := mem_pairs.1 hp
  rw [← e1]
  have h4 := (ra _ h2).1
  have h5 := (rb _ h3).1
  have h6 : 0 ≤ p.1.1 * ((n ^ j : Nat) : Int) := Int.mul_nonneg h4 (Int.natCast_nonneg _)
  omega
 rw [mem_valL h.grew.good hM.1 v z, mem_prodL, show hasV g v m z = _ from h.val v z, Bool.and_eq_true, Bool.and_eq_true, decide_eq_true_iff, ← mem_valL hG ha.1 v, ← mem_valL hG hb.1 v]
 constructor
 ·
  rintro ⟨_, h1, h2⟩
  refine ⟨_, h1, _, h2, ?_⟩
  have := Int.mul_ediv_add_emod z ((n ^ j : Nat) : Int)
  rw [Int.mul_comm] at this
  exact this.symm
 ·
  rintro ⟨x, hx, y, hy, rfl⟩
  obtain ⟨h3, h4⟩ := hrb y hy
  have e1 : (x * ((n ^ j : Nat) : Int) + y) / ((n ^ j : Nat) : Int) = x := by rw [Int.add_comm, Int.add_mul_ediv_right _ _ (by omega), Int.ediv_eq_zero_of_lt h3 h4, Int.zero_add]
  have e2 : (x * ((n ^ j : Nat) : Int) + y) % ((n ^ j : Nat) : Int) = y := by rw [Int.add_comm, Int.add_mul_emod_self_right, Int.emod_eq_of_lt h3 h4]
  rw [e1, e2]
  refine ⟨?_, hx, hy⟩
  obtain ⟨c, hc, _, rfl⟩ := mem_val.1 hx
  obtain ⟨d, hd, _, rfl⟩ := mem_val.1 hy
  exact List.mem_map.2 ⟨(c, d), mem_pairs.2 ⟨hc, hd⟩, rfl⟩
end Go.Proofs.YthdhmflodiincaaGreat
