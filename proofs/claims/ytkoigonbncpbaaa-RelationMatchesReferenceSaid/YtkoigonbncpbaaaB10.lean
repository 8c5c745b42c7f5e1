/- Relations over few atoms: the functions on them, in one form. -/
import Derived.Test.YtkoigonbncpbaaaB9
namespace Go.Proofs.Ytkoigonbncpbaaa
open Go.RowKit Go.Shelf

/-- The tuples of a valid relation. -/
structure VR (n k : Nat) (L : List Int) : Prop where
  up : Up L
  lo : ∀ z ∈ L, 0 ≤ z ∧ z < ((n ^ k : Nat) : Int)
theorem VR.nat {n k : Nat} {L : List Int} (h : VR n k L) {z : Int} (hz : z ∈ L) : ∃ m : Nat, z = (m : Int) ∧ m < n ^ k := by
  have h1 := h.lo z hz
  exact ⟨z.toNat, by omega, by omega⟩
theorem up_len : ∀ {L : List Int} {lo hi : Int}, Up L → (∀ z ∈ L, lo ≤ z ∧ z < hi) → lo ≤ hi → (L.length : Int) ≤ hi - lo
  | [], lo, hi, _, _, h => by simp; omega
  | x :: L, lo, hi, hu, hb, h => by
    have hx := hb x (List.mem_cons_self ..)
    have h1 := up_len (lo := x + 1) (hi := hi) (List.pairwise_cons.1 hu).2 (fun z hz => ⟨by have := (List.pairwise_cons.1 hu).1 z hz; omega, (hb z (List.mem_cons_of_mem _ hz)).2⟩) (by omega)
    simp only [List.length_cons]
    omega
theorem pow_few {n k : Nat} (hn5 : n ≤ 5) (hk3 : k ≤ 3) : n ^ k ≤ 125 := Nat.le_trans (Nat.pow_le_pow_left hn5 k) (Nat.pow_le_pow_right (n := 5) (by omega) hk3)
theorem VR.len {n k : Nat} {L : List Int} (h : VR n k L) (hn5 : n ≤ 5) (hk3 : k ≤ 3) : L.length ≤ 125 := by
  have h1 := up_len h.up h.lo (by omega)
  have h2 := pow_few hn5 hk3
  omega
theorem VR.few {n k : Nat} {L : List Int} (h : VR n k L) (hn5 : n ≤ 5) (hk3 : k ≤ 3) : ∀ z ∈ L, 0 ≤ z ∧ z ≤ 2000 := fun z hz => by
  have h1 := h.lo z hz
  have h2 := pow_few hn5 hk3
  omega
theorem VR.union {n k : Nat} {A B : List Int} (hA : VR n k A) (hB : VR n k B) : VR n k (unionL A B) :=
  ⟨merge_up _ _ _ hA.up hB.up, fun z hz => ((mem_union hA.up hB.up).1 hz).elim (hA.lo z) (hB.lo z)⟩
theorem VR.inter {n k : Nat} {A B : List Int} (hA : VR n k A) (hB : VR n k B) : VR n k (interL A B) :=
  ⟨merge_up _ _ _ hA.up hB.up, fun z hz => hA.lo z ((mem_inter hA.up hB.up).1 hz).1⟩
theorem VR.diff {n k : Nat} {A B : List Int} (hA : VR n k A) (hB : VR n k B) : VR n k (diffL A B) :=
  ⟨merge_up _ _ _ hA.up hB.up, fun z hz => hA.lo z ((mem_diff hA.up hB.up).1 hz).1⟩
theorem VR.keep {n k r : Nat} {A B : List Int} (hA : VR n k A) : VR n k (keepL r A B) := ⟨hA.up.filter _, fun z hz => hA.lo z (List.mem_filter.1 hz).1⟩
theorem VR.over {n k r : Nat} {A B : List Int} (hA : VR n k A) (hB : VR n k B) : VR n k (overL r A B) := hA.keep.union hB
theorem VR.nil (n k : Nat) : VR n k [] := ⟨List.Pairwise.nil, fun z hz => by cases hz⟩
theorem VR.from (n k : Nat) (raw : List Nat) (hn : 1 ≤ n) : VR n k (fromL n k raw) := ⟨fromL_up n k raw, fun _ hz => fromL_in hn hz⟩
theorem VR.full (n k : Nat) : VR n k (fullL n k) := ⟨upTo_up (fun _ _ h => h) _, fun z hz => by obtain ⟨i, hi, rfl⟩ := mem_upTo.1 hz; omega⟩
theorem VR.iden (n : Nat) : VR n 2 (idenL n) := ⟨upTo_up (fun i j h => by have := Nat.mul_le_mul_right n (Nat.le_of_lt h); omega) _, fun z hz => by
  obtain ⟨i, hi, rfl⟩ := mem_upTo.1 hz
  have h1 : (i + 1) * n ≤ n * n := Nat.mul_le_mul_right n hi
  rw [Nat.succ_mul] at h1
  rw [Nat.pow_two]
  omega⟩
theorem pair_lt {a b p q : Nat} (h1 : a < p) (h2 : b < q) : a * q + b < p * q := by
  have h := Nat.mul_le_mul_right q (show a + 1 ≤ p from h1)
  rw [Nat.succ_mul] at h
  omega
theorem turn_nat {n : Nat} (m : Nat) : ((m : Int) % (n : Int) * n + m / n) = ((m % n * n + m / n : Nat) : Int) := by simp
theorem mem_turn {n : Nat} {A : List Int} {z : Int} : z ∈ turnL n A ↔ ∃ x ∈ A, z = x % (n : Int) * n + x / n := by
  simp only [turnL, List.mem_map]
  exact ⟨fun ⟨x, h, e⟩ => ⟨x, h, e.symm⟩, fun ⟨x, h, e⟩ => ⟨x, h, e.symm⟩⟩
theorem VR.turn {n : Nat} {A : List Int} (hA : VR n 2 A) (hn : 1 ≤ n) : VR n 2 (uniq (turnL n A)) := ⟨uniq_up _, fun z hz => by
  obtain ⟨x, hx, rfl⟩ := mem_turn.1 (mem_uniq.1 hz)
  obtain ⟨m, rfl, hm⟩ := hA.nat hx
  rw [turn_nat]
  rw [Nat.pow_two] at hm ⊢
  have h1 := pair_lt (Nat.mod_lt m (show 0 < n by omega)) (Nat.div_lt_of_lt_mul hm)
  exact ⟨Int.natCast_nonneg _, Int.ofNat_lt.2 h1⟩⟩
theorem mem_stepC {n m f t : Nat} {S : List Int} {z : Int} : z ∈ stepC n m f t S ↔ z ∈ S ∨ (z = ((f * n + t : Nat) : Int) ∧ ((f * n + m : Nat) : Int) ∈ S ∧ ((m * n + t : Nat) : Int) ∈ S) := by
  unfold stepC
  by_cases h : ((f * n + m : Nat) : Int) ∈ S ∧ ((m * n + t : Nat) : Int) ∈ S
  · rw [if_pos h, List.mem_append, List.mem_singleton]
    exact ⟨fun h' => h'.elim .inl fun e => .inr ⟨e, h⟩, fun h' => h'.elim .inl fun e => .inr e.1⟩
  · rw [if_neg h]
    exact ⟨.inl, fun h' => h'.elim id fun e => absurd e.2 h⟩
/-- Whatever holds of the numbers at the start, and of each that a step may put in, holds of all. -/
theorem runT_all {P : Int → Prop} {n m f : Nat} : ∀ (t : Nat) (S : List Int), (∀ z ∈ S, P z) → (∀ t', t' < t → ∀ S' : List Int, (∀ z ∈ S', P z) → ((f * n + m : Nat) : Int) ∈ S' → ((m * n + t' : Nat) : Int) ∈ S' → P ((f * n + t' : Nat) : Int)) → ∀ z ∈ runT n m f t S, P z
  | 0, S, h, _, z, hz => h z hz
  | t + 1, S, h, hs, z, hz => by
    have ih := runT_all t S h (fun t' ht => hs t' (by omega))
    rcases mem_stepC.1 hz with h1 | ⟨rfl, h1, h2⟩
    · exact ih z h1
    · exact hs t (by omega) _ ih h1 h2
theorem runF_all {P : Int → Prop} {n m : Nat} : ∀ (f : Nat) (S : List Int), (∀ z ∈ S, P z) → (∀ f' t', f' < f → t' < n → ∀ S' : List Int, (∀ z ∈ S', P z) → ((f' * n + m : Nat) : Int) ∈ S' → ((m * n + t' : Nat) : Int) ∈ S' → P ((f' * n + t' : Nat) : Int)) → ∀ z ∈ runF n m f S, P z
  | 0, S, h, _, z, hz => h z hz
  | f + 1, S, h, hs, z, hz => runT_all n _ (runF_all f S h (fun f' t' hf ht => hs f' t' (by omega) ht)) (fun t' ht => hs f t' (by omega) ht) z hz
theorem runM_all {P : Int → Prop} {n : Nat} : ∀ (m : Nat) (S : List Int), (∀ z ∈ S, P z) → (∀ m' f' t', m' < m → f' < n → t' < n → ∀ S' : List Int, (∀ z ∈ S', P z) → ((f' * n + m' : Nat) : Int) ∈ S' → ((m' * n + t' : Nat) : Int) ∈ S' → P ((f' * n + t' : Nat) : Int)) → ∀ z ∈ runM n m S, P z
  | 0, S, h, _, z, hz => h z hz
  | m + 1, S, h, hs, z, hz => runF_all n _ (runM_all m S h (fun m' f' t' hm hf ht => hs m' f' t' (by omega) hf ht)) (fun f' t' hf ht => hs m f' t' (by omega) hf ht) z hz
theorem VR.clos {n : Nat} {A : List Int} (hA : VR n 2 A) : VR n 2 (uniq (closS n A)) := ⟨uniq_up _, fun z hz =>
  runM_all (P := fun z => 0 ≤ z ∧ z < ((n ^ 2 : Nat) : Int)) n A hA.lo (fun m' f' t' _ hf ht _ _ _ _ => by
    have h := pair_lt hf ht
    rw [Nat.pow_two]
    exact ⟨Int.natCast_nonneg _, Int.ofNat_lt.2 h⟩) z (mem_uniq.1 hz)⟩
theorem mem_joinP {n r : Nat} {A B : List Int} {z : Int} : z ∈ joinP n r A B ↔ ∃ x ∈ A, ∃ y ∈ B, x % (n : Int) = y / (r : Int) ∧ z = x / (n : Int) * (r : Int) + y % (r : Int) := by
  simp only [joinP, meetRow, List.mem_flatMap, List.mem_filterMap]
  constructor
  · rintro ⟨x, hx, y, hy, h⟩
    split at h
    · rename_i hm
      injection h with h
      exact ⟨x, hx, y, hy, hm, h.symm⟩
    · cases h
  · rintro ⟨x, hx, y, hy, hm, rfl⟩
    exact ⟨x, hx, y, hy, by rw [if_pos hm]⟩
theorem join_in {n k j : Nat} {A B : List Int} (hA : VR n k A) (hB : VR n j B) (hn : 1 ≤ n) (hk : 1 ≤ k) (hj : 1 ≤ j) {z : Int} (hz : z ∈ joinP n (n ^ (j - 1)) A B) : 0 ≤ z ∧ z < ((n ^ (k + j - 2) : Nat) : Int) := by
  obtain ⟨x, hx, y, hy, _, rfl⟩ := mem_joinP.1 hz
  obtain ⟨a, rfl, ha⟩ := hA.nat hx
  obtain ⟨b, rfl, hb⟩ := hB.nat hy
  have h1 : a / n < n ^ (k - 1) := Nat.div_lt_of_lt_mul (by
    have e : n ^ k = n * n ^ (k - 1) := by rw [← Nat.pow_succ']; congr 1; omega
    rw [← e]; exact ha)
  have h2 := pair_lt h1 (Nat.mod_lt b (Nat.pow_pos (n := j - 1) (show 0 < n by omega)))
  rw [← Nat.pow_add, show k - 1 + (j - 1) = k + j - 2 by omega] at h2
  have e : (a : Int) / (n : Int) * ((n ^ (j - 1) : Nat) : Int) + (b : Int) % ((n ^ (j - 1) : Nat) : Int) = ((a / n * n ^ (j - 1) + b % n ^ (j - 1) : Nat) : Int) := by simp
  rw [e]
  exact ⟨Int.natCast_nonneg _, Int.ofNat_lt.2 h2⟩
theorem VR.join {n k j : Nat} {A B : List Int} (hA : VR n k A) (hB : VR n j B) (hn : 1 ≤ n) (hk : 1 ≤ k) (hj : 1 ≤ j) : VR n (k + j - 2) (uniq (joinP n (n ^ (j - 1)) A B)) :=
  ⟨uniq_up _, fun _ hz => join_in hA hB hn hk hj (mem_uniq.1 hz)⟩
theorem mem_prodL {P : Nat} {A B : List Int} {z : Int} : z ∈ prodL P A B ↔ ∃ x ∈ A, ∃ y ∈ B, z = x * (P : Int) + y := by
  simp only [prodL, rowP, List.mem_flatMap, List.mem_map]
  exact ⟨fun ⟨x, hx, y, hy, e⟩ => ⟨x, hx, y, hy, e.symm⟩, fun ⟨x, hx, y, hy, e⟩ => ⟨x, hx, y, hy, e.symm⟩⟩
theorem prodL_up {P : Nat} {B : List Int} (hB : Up B) (hb : ∀ y ∈ B, 0 ≤ y ∧ y < (P : Int)) : ∀ {A : List Int}, Up A → Up (prodL P A B)
  | [], _ => List.Pairwise.nil
  | x :: A, hA => by
    show Up (rowP P x B ++ prodL P A B)
    refine List.pairwise_append.2 ⟨List.pairwise_map.2 (hB.imp fun h => by omega), prodL_up hB hb (List.pairwise_cons.1 hA).2, fun u hu v hv => ?_⟩
    obtain ⟨y, hy, rfl⟩ := List.mem_map.1 hu
    obtain ⟨x', hx', y', hy', rfl⟩ := mem_prodL.1 hv
    have h1 := (List.pairwise_cons.1 hA).1 x' hx'
    have h2 := hb y hy
    have h3 := hb y' hy'
    have h4 : (x + 1) * (P : Int) ≤ x' * (P : Int) := Int.mul_le_mul_of_nonneg_right (by omega) (by omega)
    rw [Int.add_mul] at h4
    omega
theorem VR.prod {n k j : Nat} {A B : List Int} (hA : VR n k A) (hB : VR n j B) : VR n (k + j) (prodL (n ^ j) A B) := ⟨prodL_up hB.up hB.lo hA.up, fun z hz => by
  obtain ⟨x, hx, y, hy, rfl⟩ := mem_prodL.1 hz
  obtain ⟨a, rfl, ha⟩ := hA.nat hx
  obtain ⟨b, rfl, hb⟩ := hB.nat hy
  have h2 := pair_lt ha hb
  rw [← Nat.pow_add] at h2
  have e : (a : Int) * ((n ^ j : Nat) : Int) + (b : Int) = ((a * n ^ j + b : Nat) : Int) := by simp
  rw [e]
  exact ⟨Int.natCast_nonneg _, Int.ofNat_lt.2 h2⟩⟩
theorem VR.valid {n k : Nat} {A : List Int} (h : VR n k A) (hn5 : n ≤ 5) (hk1 : 1 ≤ k) (hk3 : k ≤ 3) : relValid (n : Int) (k : Int) A = true := by
  rw [relValid_iff]
  refine ⟨by omega, ?_⟩
  rw [rising_iff]
  refine ⟨h.up, fun z hz => ?_⟩
  have := h.lo z hz
  simp only [Int.toNat_natCast]
  omega

theorem unionV {n k : Nat} {A B C : List Int} {la lb lc : Nat} (p q : Int) (hA : VR n k A) (hB : VR n k B) (hn5 : n ≤ 5) (hk3 : k ≤ 3) (hC : unionL A B = C) (h1 : A.length = la) (h2 : B.length = lb) (h3 : C.length = lc) :
    ∀ (U : World) (a : Option Addr) (c : Nat) (a' : Option Addr) (c' : Nat), IntsW U a c A → IntsW U a' c' B → Calls Try.prog 27 #[.agg #[.int .i64 p, .slice a la c], .agg #[.int .i64 q, .slice a' lb c']] U fun e w' => ∃ x y, e = .returned (.agg #[.int .i64 p, .slice x lc y]) ∧ IntsW w' x y C ∧ U.grownBy w' none := by
  intro U a c a' c' ha ha'
  subst hC h1 h2 h3
  refine (union_calls p q A B a a' c c' U ha ha' (by have := hA.len hn5 hk3; omega) (by have := hB.len hn5 hk3; omega)).mono ?_
  rintro e w' ⟨x, y, rfl, hs, g⟩
  exact ⟨x, y, rfl, hs.here, g⟩
theorem interV {n k : Nat} {A B C : List Int} {la lb lc : Nat} (p q : Int) (hA : VR n k A) (hB : VR n k B) (hn5 : n ≤ 5) (hk3 : k ≤ 3) (hC : interL A B = C) (h1 : A.length = la) (h2 : B.length = lb) (h3 : C.length = lc) :
    ∀ (U : World) (a : Option Addr) (c : Nat) (a' : Option Addr) (c' : Nat), IntsW U a c A → IntsW U a' c' B → Calls Try.prog 29 #[.agg #[.int .i64 p, .slice a la c], .agg #[.int .i64 q, .slice a' lb c']] U fun e w' => ∃ x y, e = .returned (.agg #[.int .i64 p, .slice x lc y]) ∧ IntsW w' x y C ∧ U.grownBy w' none := by
  intro U a c a' c' ha ha'
  subst hC h1 h2 h3
  refine (inter_calls p q A B a a' c c' U ha ha' (by have := hA.len hn5 hk3; omega) (by have := hB.len hn5 hk3; omega)).mono ?_
  rintro e w' ⟨x, y, rfl, hs, g⟩
  exact ⟨x, y, rfl, hs.here, g⟩
theorem diffV {n k : Nat} {A B C : List Int} {la lb lc : Nat} (p q : Int) (hA : VR n k A) (hB : VR n k B) (hn5 : n ≤ 5) (hk3 : k ≤ 3) (hC : diffL A B = C) (h1 : A.length = la) (h2 : B.length = lb) (h3 : C.length = lc) :
    ∀ (U : World) (a : Option Addr) (c : Nat) (a' : Option Addr) (c' : Nat), IntsW U a c A → IntsW U a' c' B → Calls Try.prog 31 #[.agg #[.int .i64 p, .slice a la c], .agg #[.int .i64 q, .slice a' lb c']] U fun e w' => ∃ x y, e = .returned (.agg #[.int .i64 p, .slice x lc y]) ∧ IntsW w' x y C ∧ U.grownBy w' none := by
  intro U a c a' c' ha ha'
  subst hC h1 h2 h3
  refine (diff_calls p q A B a a' c c' U ha ha' (by have := hA.len hn5 hk3; omega) (by have := hB.len hn5 hk3; omega)).mono ?_
  rintro e w' ⟨x, y, rfl, hs, g⟩
  exact ⟨x, y, rfl, hs.here, g⟩
theorem overV {n k j : Nat} {A B C : List Int} {la lb lc : Nat} (hA : VR n k A) (hB : VR n j B) (hn1 : 1 ≤ n) (hn5 : n ≤ 5) (hk3 : k ≤ 3) (hj : 1 ≤ j) (hj3 : j ≤ 3) (hC : overL (n ^ (j - 1)) A B = C) (h1 : A.length = la) (h2 : B.length = lb) (h3 : C.length = lc) :
    ∀ (U : World) (a : Option Addr) (c : Nat) (a' : Option Addr) (c' : Nat), IntsW U a c A → IntsW U a' c' B → Calls Try.prog 33 #[.int .i64 (n : Int), .agg #[.int .i64 (k : Int), .slice a la c], .agg #[.int .i64 (j : Int), .slice a' lb c']] U fun e w' => ∃ x y, e = .returned (.agg #[.int .i64 (k : Int), .slice x lc y]) ∧ IntsW w' x y C ∧ U.grownBy w' none := by
  intro U a c a' c' ha ha'
  subst hC h1 h2 h3
  refine (override_calls n k j A B a a' c c' U ha ha' (by have := hA.len hn5 hk3; omega) (by have := hB.len hn5 hj3; omega) hn1 (by omega) hj hj3 (hA.few hn5 hk3) (hB.few hn5 hj3)).mono ?_
  rintro e w' ⟨x, y, rfl, hs, g⟩
  exact ⟨x, y, rfl, hs.here, g⟩
theorem turnV {n : Nat} {A C : List Int} {la lc : Nat} (hA : VR n 2 A) (hn1 : 1 ≤ n) (hn5 : n ≤ 5) (hC : uniq (turnL n A) = C) (h1 : A.length = la) (h3 : C.length = lc) :
    ∀ (U : World) (a : Option Addr) (c : Nat), IntsW U a c A → Calls Try.prog 21 #[.int .i64 (n : Int), .agg #[.int .i64 2, .slice a la c]] U fun e w' => ∃ x y, e = .returned (.agg #[.int .i64 2, .slice x lc y]) ∧ IntsW w' x y C ∧ U.grownBy w' none := by
  intro U a c ha
  subst hC h1 h3
  refine (transpose_calls n (2 : Int) A a c U ha (by have := hA.len hn5 (by omega); omega) hn1 (by omega) (hA.few hn5 (by omega))).mono ?_
  rintro e w' ⟨x, y, rfl, hs, g⟩
  exact ⟨x, y, rfl, hs.here, g⟩
theorem closV {n : Nat} {A C : List Int} {la lc : Nat} (hA : VR n 2 A) (hn5 : n ≤ 5) (hC : uniq (closS n A) = C) (h1 : A.length = la) (h3 : C.length = lc) :
    ∀ (U : World) (a : Option Addr) (c : Nat), IntsW U a c A → Calls Try.prog 23 #[.int .i64 (n : Int), .agg #[.int .i64 2, .slice a la c]] U fun e w' => ∃ x y, e = .returned (.agg #[.int .i64 2, .slice x lc y]) ∧ IntsW w' x y C ∧ U.grownBy w' none := by
  intro U a c ha
  subst hC h1 h3
  refine (closure_calls n (2 : Int) A a c U ha (by have := hA.len hn5 (by omega); omega) (by omega) (hA.few hn5 (by omega))).mono ?_
  rintro e w' ⟨x, y, rfl, hs, g⟩
  exact ⟨x, y, rfl, hs.here, g⟩
theorem joinV {n k j : Nat} {A B C : List Int} {la lb lc : Nat} (kk : Nat) (hkk : k + j - 2 = kk) (hA : VR n k A) (hB : VR n j B) (hn1 : 1 ≤ n) (hn5 : n ≤ 5) (hk : 1 ≤ k) (hk3 : k ≤ 3) (hj : 1 ≤ j) (hj3 : j ≤ 3) (hkj : 3 ≤ k + j) (hkj2 : k + j ≤ 5) (hC : uniq (joinP n (n ^ (j - 1)) A B) = C) (h1 : A.length = la) (h2 : B.length = lb) (h3 : C.length = lc) :
    ∀ (U : World) (a : Option Addr) (c : Nat) (a' : Option Addr) (c' : Nat), IntsW U a c A → IntsW U a' c' B → Calls Try.prog 15 #[.int .i64 (n : Int), .agg #[.int .i64 (k : Int), .slice a la c], .agg #[.int .i64 (j : Int), .slice a' lb c']] U fun e w' => ∃ x y, e = .returned (.tuple #[.agg #[.int .i64 (kk : Int), .slice x lc y], .int .i64 0]) ∧ IntsW w' x y C ∧ U.grownBy w' none := by
  intro U a c a' c' ha ha'
  subst hC h1 h2 h3 hkk
  refine (join_calls n k j A B a a' c c' U ha ha' (by have := hA.len hn5 hk3; omega) (by have := hB.len hn5 hj3; omega) hn1 (by omega) hj hj3 hkj hkj2 (hA.few hn5 hk3) (hB.few hn5 hj3) (fun v hv => ?_)).mono ?_
  · have h1 := join_in hA hB hn1 hk hj hv
    have h2 := pow_few (n := n) (k := k + j - 2) hn5 (by omega)
    exact wf64 (by omega) (by omega)
  · rintro e w' ⟨x, y, rfl, hs, g⟩
    exact ⟨x, y, rfl, hs, g⟩
theorem prodV {n k j : Nat} {A B C : List Int} {la lb lc : Nat} (kk : Nat) (hkk : k + j = kk) (hA : VR n k A) (hB : VR n j B) (hn5 : n ≤ 5) (hkj : k + j ≤ 3) (hC : prodL (n ^ j) A B = C) (h1 : A.length = la) (h2 : B.length = lb) (h3 : C.length = lc) :
    ∀ (U : World) (a : Option Addr) (c : Nat) (a' : Option Addr) (c' : Nat), IntsW U a c A → IntsW U a' c' B → Calls Try.prog 13 #[.int .i64 (n : Int), .agg #[.int .i64 (k : Int), .slice a la c], .agg #[.int .i64 (j : Int), .slice a' lb c']] U fun e w' => ∃ x y, e = .returned (.tuple #[.agg #[.int .i64 (kk : Int), .slice x lc y], .int .i64 0]) ∧ IntsW w' x y C ∧ U.grownBy w' none := by
  intro U a c a' c' ha ha'
  subst hC h1 h2 h3 hkk
  refine (product_calls n k j A B a a' c c' U ha ha' (by have := hA.len hn5 (by omega); omega) (by have := hB.len hn5 (by omega); omega) (by omega) hkj (hA.few hn5 (by omega)) (hB.few hn5 (by omega))).mono ?_
  rintro e w' ⟨x, y, rfl, hs, g⟩
  exact ⟨x, y, rfl, hs.here, g⟩
theorem prodOdd {n k j : Nat} {A B : List Int} {la lb : Nat} (hkj : 3 < k + j) (hk3 : k ≤ 3) (hj3 : j ≤ 3) (h1 : A.length = la) (h2 : B.length = lb) (U : World) (a : Option Addr) (c : Nat) (a' : Option Addr) (c' : Nat) :
    Calls Try.prog 13 #[.int .i64 (n : Int), .agg #[.int .i64 (k : Int), .slice a la c], .agg #[.int .i64 (j : Int), .slice a' lb c']] U fun e w' => e = .returned (.tuple #[.agg #[.int .i64 0, .slice none 0 0], .int .i64 42]) ∧ U.grownBy w' none := by
  subst h1 h2
  exact product_odd n k j A B a a' c c' U hkj hk3 hj3
theorem joinOdd {n k j : Nat} {A B : List Int} {la lb : Nat} (hkj : k + j ≤ 2 ∨ 6 ≤ k + j) (hk3 : k ≤ 3) (hj3 : j ≤ 3) (h1 : A.length = la) (h2 : B.length = lb) (U : World) (a : Option Addr) (c : Nat) (a' : Option Addr) (c' : Nat) :
    Calls Try.prog 15 #[.int .i64 (n : Int), .agg #[.int .i64 (k : Int), .slice a la c], .agg #[.int .i64 (j : Int), .slice a' lb c']] U fun e w' => e = .returned (.tuple #[.agg #[.int .i64 0, .slice none 0 0], .int .i64 42]) ∧ U.grownBy w' none := by
  subst h1 h2
  exact join_odd n k j A B a a' c c' U hkj hk3 hj3
theorem idenV {n : Nat} {C : List Int} {lc : Nat} (hn5 : n ≤ 5) (hC : idenL n = C) (h3 : C.length = lc) :
    ∀ (U : World) , Calls Try.prog 25 #[.int .i64 (n : Int)] U fun e w' => ∃ x y, e = .returned (.agg #[.int .i64 2, .slice x lc y]) ∧ IntsW w' x y C ∧ U.grownBy w' none := by
  intro U  
  subst hC h3
  refine (iden_calls n U (by omega)).mono ?_
  rintro e w' ⟨x, y, rfl, hs, g⟩
  exact ⟨x, y, rfl, hs.here, g⟩
theorem fullV {n k : Nat} {C : List Int} {lc : Nat} (hn5 : n ≤ 5) (hk3 : k ≤ 3) (hC : fullL n k = C) (h3 : C.length = lc) :
    ∀ (U : World) , Calls Try.prog 37 #[.int .i64 (n : Int), .int .i64 (k : Int)] U fun e w' => ∃ x y, e = .returned (.agg #[.int .i64 (k : Int), .slice x lc y]) ∧ IntsW w' x y C ∧ U.grownBy w' none := by
  intro U  
  subst hC h3
  refine (full_calls n k U (by omega) hk3).mono ?_
  rintro e w' ⟨x, y, rfl, hs, g⟩
  exact ⟨x, y, rfl, hs.here, g⟩
theorem fromV {n k : Nat} {raw : List Nat} {C : List Int} {lr lc : Nat} (hn1 : 1 ≤ n) (hn5 : n ≤ 5) (hk3 : k ≤ 3) (hl : (raw.length : Int) ≤ 9223372036854775807) (hC : fromL n k raw = C) (h1 : raw.length = lr) (h3 : C.length = lc) :
    ∀ (U : World) (a : Option Addr) (c : Nat), U16s U a c raw → Calls Try.prog 12 #[.int .i64 (n : Int), .int .i64 (k : Int), .slice a lr c] U fun e w' => ∃ x y, e = .returned (.agg #[.int .i64 (k : Int), .slice x lc y]) ∧ IntsW w' x y C ∧ U.grownBy w' none := by
  intro U a c ha
  subst hC h1 h3
  refine (from_calls n k raw a c U ha hn1 (by omega) hk3 hl).mono ?_
  rintro e w' ⟨x, y, rfl, hs, g⟩
  exact ⟨x, y, rfl, hs.here, g⟩
theorem equalV {n k : Nat} {A B : List Int} {la lb : Nat} {Q : Bool} (p q : Int) (hA : VR n k A) (hn5 : n ≤ 5) (hk3 : k ≤ 3) (hQ : decide (p = q ∧ A = B) = Q) (h1 : A.length = la) (h2 : B.length = lb) :
    ∀ (U : World) (a : Option Addr) (c : Nat) (a' : Option Addr) (c' : Nat), IntsW U a c A → IntsW U a' c' B → Calls Try.prog 19 #[.agg #[.int .i64 p, .slice a la c], .agg #[.int .i64 q, .slice a' lb c']] U fun e w' => e = .returned (.bool Q) ∧ U.grownBy w' none := by
  intro U a c a' c' ha ha'
  subst hQ h1 h2
  have h := relEqual_calls (p, A) (q, B) a a' c c' U ha ha' (by have := hA.len hn5 hk3; simp only; omega)
  simp only [Prod.mk.injEq] at h
  exact h
theorem requalV {n k : Nat} {A B : List Int} {la lb : Nat} {Q : Bool} (p q : Int) (hA : VR n k A) (hn5 : n ≤ 5) (hk3 : k ≤ 3) (hQ : decide (p = q ∧ A = B) = Q) (h1 : A.length = la) (h2 : B.length = lb) :
    ∀ (U : World) (a : Option Addr) (c : Nat) (a' : Option Addr) (c' : Nat), IntsW U a c A → IntsW U a' c' B → Calls Try.prog 20 #[.agg #[.int .i64 p, .slice a la c], .agg #[.int .i64 q, .slice a' lb c']] U fun e w' => e = .returned (.bool Q) ∧ U.grownBy w' none := by
  intro U a c a' c' ha ha'
  subst hQ h1 h2
  have h := rRelEqual_calls (p, A) (q, B) a a' c c' U ha ha' (by have := hA.len hn5 hk3; simp only; omega)
  simp only [Prod.mk.injEq] at h
  exact h
theorem inV {n k : Nat} {A B : List Int} {la lb : Nat} {Q : Bool} (p q : Int) (hA : VR n k A) (hB : VR n k B) (hn5 : n ≤ 5) (hk3 : k ≤ 3) (hQ : decide (∀ z ∈ A, z ∈ B) = Q) (h1 : A.length = la) (h2 : B.length = lb) :
    ∀ (U : World) (a : Option Addr) (c : Nat) (a' : Option Addr) (c' : Nat), IntsW U a c A → IntsW U a' c' B → Calls Try.prog 35 #[.agg #[.int .i64 p, .slice a la c], .agg #[.int .i64 q, .slice a' lb c']] U fun e w' => e = .returned (.bool Q) ∧ U.grownBy w' none := by
  intro U a c a' c' ha ha'
  subst hQ h1 h2
  have h := in_calls p q A B a a' c c' U ha ha' (by have := hA.len hn5 hk3; omega) (by have := hB.len hn5 hk3; omega)
  have e : inB A B = decide (∀ z ∈ A, z ∈ B) := by
    rw [Bool.eq_iff_iff, inB_iff hA.up hB.up, decide_eq_true_iff]
  rw [e] at h
  exact h
theorem validV {n k : Nat} {A : List Int} {la : Nat} (hA : VR n k A) (hn5 : n ≤ 5) (hk1 : 1 ≤ k) (hk3 : k ≤ 3) (h1 : A.length = la) :
    ∀ (U : World) (a : Option Addr) (c : Nat), IntsW U a c A → Calls Try.prog 17 #[.int .i64 (n : Int), .agg #[.int .i64 (k : Int), .slice a la c]] U fun e w' => e = .returned (.bool true) ∧ U.grownBy w' none := by
  intro U a c ha
  subst h1
  have h := relValid_calls (n : Int) (k : Int) A a c U ha (by have := hA.len hn5 hk3; omega)
  rw [hA.valid hn5 hk1 hk3] at h
  exact h
end Go.Proofs.Ytkoigonbncpbaaa
