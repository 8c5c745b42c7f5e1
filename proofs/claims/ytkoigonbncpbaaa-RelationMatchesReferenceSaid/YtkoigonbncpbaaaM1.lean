/- What the operations hold, tuple by tuple. -/
import Derived.Test.YtkoigonbncpbaaaB10
namespace Go.Proofs.Ytkoigonbncpbaaa

theorem eqQ {A B : List Int} (p : Int) (h : A = B) : decide (p = p ∧ A = B) = true := decide_eq_true ⟨rfl, h⟩
theorem neQ {A B : List Int} (p : Int) (h : ¬ A = B) : decide (p = p ∧ A = B) = false := decide_eq_false fun h' => h h'.2
theorem vaQ {A B : List Int} {Q : Bool} (p : Int) (h : decide (A = B) = Q) : decide (p = p ∧ A = B) = Q := by rw [← h]; simp
/-- The tuple of rank z is there. -/
abbrev Hs (L : List Int) (z : Nat) : Prop := ((z : Nat) : Int) ∈ L
theorem vr_ext {n k : Nat} {A B : List Int} (hA : VR n k A) (hB : VR n k B) (h : ∀ z, z < n ^ k → (Hs A z ↔ Hs B z)) : A = B := up_ext hA.up hB.up fun z => by
  constructor
  · intro hz
    obtain ⟨m, rfl, hm⟩ := hA.nat hz
    exact (h m hm).1 hz
  · intro hz
    obtain ⟨m, rfl, hm⟩ := hB.nat hz
    exact (h m hm).2 hz
theorem vr_sub {n k : Nat} {A B : List Int} (hA : VR n k A) (h : ∀ z, z < n ^ k → Hs A z → Hs B z) : ∀ z ∈ A, z ∈ B := fun z hz => by
  obtain ⟨m, rfl, hm⟩ := hA.nat hz
  exact h m hm hz
theorem vr_lt {n k : Nat} {A : List Int} (hA : VR n k A) {z : Nat} (h : Hs A z) : z < n ^ k := by have := (hA.lo _ h).2; omega
/-- A number is a pair. -/
theorem pair_of {q z p : Nat} (hq : 0 < q) (h : z < p * q) : ∃ u v, u < p ∧ v < q ∧ z = u * q + v :=
  ⟨z / q, z % q, Nat.div_lt_of_lt_mul (by rw [Nat.mul_comm]; exact h), Nat.mod_lt _ hq, by rw [Nat.mul_comm]; exact (Nat.div_add_mod z q).symm⟩
theorem pair_div {q u v : Nat} (hv : v < q) : (u * q + v) / q = u := by rw [Nat.mul_comm, Nat.mul_add_div (by omega), Nat.div_eq_of_lt hv, Nat.add_zero]
theorem pair_mod {q u v : Nat} (hv : v < q) : (u * q + v) % q = v := by rw [Nat.mul_comm, Nat.mul_add_mod, Nat.mod_eq_of_lt hv]
theorem pair_inj {q u v u' v' : Nat} (hv : v < q) (hv' : v' < q) (h : u * q + v = u' * q + v') : u = u' ∧ v = v' := by
  have h1 := congrArg (· / q) h
  have h2 := congrArg (· % q) h
  simp only [pair_div hv, pair_div hv', pair_mod hv, pair_mod hv'] at h1 h2
  exact ⟨h1, h2⟩
theorem hs_union {n k : Nat} {A B : List Int} (hA : VR n k A) (hB : VR n k B) {z : Nat} : Hs (unionL A B) z ↔ Hs A z ∨ Hs B z := mem_union hA.up hB.up
theorem hs_inter {n k : Nat} {A B : List Int} (hA : VR n k A) (hB : VR n k B) {z : Nat} : Hs (interL A B) z ↔ Hs A z ∧ Hs B z := mem_inter hA.up hB.up
theorem hs_diff {n k : Nat} {A B : List Int} (hA : VR n k A) (hB : VR n k B) {z : Nat} : Hs (diffL A B) z ↔ Hs A z ∧ ¬ Hs B z := mem_diff hA.up hB.up
theorem hs_full {n k z : Nat} : Hs (fullL n k) z ↔ z < n ^ k := by
  rw [Hs, mem_upTo]
  exact ⟨fun ⟨i, h, e⟩ => by omega, fun h => ⟨z, h, rfl⟩⟩
theorem hs_iden {n x y : Nat} (hx : x < n) (hy : y < n) : Hs (idenL n) (x * n + y) ↔ x = y := by
  rw [Hs, mem_upTo]
  constructor
  · rintro ⟨i, hi, e⟩
    have := pair_inj hy hi (by omega : x * n + y = i * n + i)
    omega
  · rintro rfl
    exact ⟨x, hx, rfl⟩
theorem hs_turn {n : Nat} {A : List Int} (hA : VR n 2 A) {x y : Nat} (hx : x < n) (hy : y < n) : Hs (uniq (turnL n A)) (x * n + y) ↔ Hs A (y * n + x) := by
  rw [Hs, mem_uniq, mem_turn]
  constructor
  · rintro ⟨z, hz, e⟩
    obtain ⟨m, rfl, hm⟩ := hA.nat hz
    rw [turn_nat] at e
    rw [Nat.pow_two] at hm
    obtain ⟨u, v, hu, hv, rfl⟩ := pair_of (by omega) hm
    rw [pair_mod hv, pair_div hv] at e
    have := pair_inj hy hu (by omega : x * n + y = v * n + u)
    obtain ⟨rfl, rfl⟩ := this
    exact hz
  · intro h
    refine ⟨_, h, ?_⟩
    rw [turn_nat, pair_mod hx, pair_div hx]
theorem hs_join {n k j : Nat} {A B : List Int} (hA : VR n k A) (hB : VR n j B) (hn : 1 ≤ n) (hk : 1 ≤ k) (hj : 1 ≤ j) {u v : Nat} (hv : v < n ^ (j - 1)) :
    Hs (uniq (joinP n (n ^ (j - 1)) A B)) (u * n ^ (j - 1) + v) ↔ ∃ m, m < n ∧ Hs A (u * n + m) ∧ Hs B (m * n ^ (j - 1) + v) := by
  have hr : 0 < n ^ (j - 1) := Nat.pow_pos (by omega)
  have eA : n ^ k = n ^ (k - 1) * n := by rw [← Nat.pow_succ]; congr 1; omega
  have eB : n ^ j = n * n ^ (j - 1) := by rw [← Nat.pow_succ']; congr 1; omega
  rw [Hs, mem_uniq, mem_joinP]
  constructor
  · rintro ⟨x, hx, y, hy, hm, e⟩
    obtain ⟨a, rfl, ha⟩ := hA.nat hx
    obtain ⟨b, rfl, hb⟩ := hB.nat hy
    rw [eA] at ha
    rw [eB] at hb
    obtain ⟨p, q, hp, hq, rfl⟩ := pair_of (by omega) ha
    obtain ⟨s, t, hs, ht, rfl⟩ := pair_of hr hb
    have hm' : (p * n + q) % n = (s * n ^ (j - 1) + t) / n ^ (j - 1) := by exact_mod_cast hm
    rw [pair_mod hq, pair_div ht] at hm'
    have e' : u * n ^ (j - 1) + v = (p * n + q) / n * n ^ (j - 1) + (s * n ^ (j - 1) + t) % n ^ (j - 1) := by exact_mod_cast e
    rw [pair_div hq, pair_mod ht] at e'
    obtain ⟨rfl, rfl⟩ := pair_inj hv ht e'
    subst hm'
    exact ⟨q, hq, hx, hy⟩
  · rintro ⟨m, hm, h1, h2⟩
    refine ⟨_, h1, _, h2, ?_, ?_⟩
    · have : (u * n + m) % n = (m * n ^ (j - 1) + v) / n ^ (j - 1) := by rw [pair_mod hm, pair_div hv]
      exact_mod_cast this
    · have : u * n ^ (j - 1) + v = (u * n + m) / n * n ^ (j - 1) + (m * n ^ (j - 1) + v) % n ^ (j - 1) := by rw [pair_div hm, pair_mod hv]
      exact_mod_cast this
/-! ### the closure -/
theorem runT_mono {n m f : Nat} {z : Int} : ∀ (t : Nat) (S : List Int), z ∈ S → z ∈ runT n m f t S
  | 0, _, h => h
  | t + 1, S, h => mem_stepC.2 (.inl (runT_mono t S h))
theorem runF_mono {n m : Nat} {z : Int} : ∀ (f : Nat) (S : List Int), z ∈ S → z ∈ runF n m f S
  | 0, _, h => h
  | f + 1, S, h => runT_mono n _ (runF_mono f S h)
theorem runM_mono {n : Nat} {z : Int} : ∀ (m : Nat) (S : List Int), z ∈ S → z ∈ runM n m S
  | 0, _, h => h
  | m + 1, S, h => runF_mono n _ (runM_mono m S h)
theorem runT_has {n m f t' : Nat} : ∀ (t : Nat) (S : List Int), t' < t → Hs S (f * n + m) → Hs S (m * n + t') → Hs (runT n m f t S) (f * n + t')
  | 0, _, h, _, _ => by omega
  | t + 1, S, h, h1, h2 => by
    rcases Nat.lt_or_ge t' t with h' | h'
    · exact mem_stepC.2 (.inl (runT_has t S h' h1 h2))
    · obtain rfl : t' = t := by omega
      exact mem_stepC.2 (.inr ⟨rfl, runT_mono _ _ h1, runT_mono _ _ h2⟩)
theorem runF_has {n m f' t' : Nat} (ht : t' < n) : ∀ (f : Nat) (S : List Int), f' < f → Hs S (f' * n + m) → Hs S (m * n + t') → Hs (runF n m f S) (f' * n + t')
  | 0, _, h, _, _ => by omega
  | f + 1, S, h, h1, h2 => by
    rcases Nat.lt_or_ge f' f with h' | h'
    · exact runT_mono _ _ (runF_has ht f S h' h1 h2)
    · obtain rfl : f' = f := by omega
      exact runT_has n _ ht (runF_mono _ _ h1) (runF_mono _ _ h2)
/-- One round of the outer loop: paths through one atom more. -/
theorem runF_iff {n m x y : Nat} {S : List Int} (hm : m < n) (hx : x < n) (hy : y < n) (_hS : ∀ z ∈ S, ∃ u v, u < n ∧ v < n ∧ z = ((u * n + v : Nat) : Int)) :
    Hs (runF n m n S) (x * n + y) ↔ Hs S (x * n + y) ∨ (Hs S (x * n + m) ∧ Hs S (m * n + y)) := by
  constructor
  · intro h
    have key := runF_all (P := fun z => ∀ u v, u < n → v < n → z = ((u * n + v : Nat) : Int) → Hs S (u * n + v) ∨ (Hs S (u * n + m) ∧ Hs S (m * n + v))) (n := n) (m := m) n S
      (fun z hz u v hu hv e => .inl (by rw [Hs, ← e]; exact hz))
      (fun f' t' hf ht S' hS' h1 h2 u v hu hv e => by
        obtain ⟨rfl, rfl⟩ := pair_inj hv ht (by omega : u * n + v = f' * n + t')
        refine .inr ⟨?_, ?_⟩
        · exact (hS' _ h1 u m hu hm rfl).elim id And.left
        · exact (hS' _ h2 m v hm hv rfl).elim id And.right)
    exact key _ h x y hx hy rfl
  · rintro (h | ⟨h1, h2⟩)
    · exact runF_mono _ _ h
    · exact runF_has hy n S hx h1 h2
theorem runM_pairs {n : Nat} (m : Nat) (_hmn : m ≤ n) {S : List Int} (hS : ∀ z ∈ S, ∃ u v, u < n ∧ v < n ∧ z = ((u * n + v : Nat) : Int)) : ∀ z ∈ runM n m S, ∃ u v, u < n ∧ v < n ∧ z = ((u * n + v : Nat) : Int) :=
  runM_all (P := fun z => ∃ u v, u < n ∧ v < n ∧ z = ((u * n + v : Nat) : Int)) m S hS (fun _ f' t' _ hf ht _ _ _ _ => ⟨f', t', hf, ht, rfl⟩)
theorem runM_closed {n : Nat} : ∀ (M : Nat), M ≤ n → ∀ {S : List Int}, (∀ z ∈ S, ∃ u v, u < n ∧ v < n ∧ z = ((u * n + v : Nat) : Int)) →
    ∀ m x y, m < M → x < n → y < n → Hs (runM n M S) (x * n + m) → Hs (runM n M S) (m * n + y) → Hs (runM n M S) (x * n + y)
  | 0, _, _, _, m, _, _, hm, _, _, _, _ => by omega
  | M + 1, hM, S, hS, m, x, y, hm, hx, hy, h1, h2 => by
    have ih := runM_closed M (by omega) hS
    have hp := runM_pairs M (by omega) hS
    have it := fun {x y : Nat} (hx : x < n) (hy : y < n) => runF_iff (m := M) (S := runM n M S) (by omega) hx hy hp
    change Hs (runF n M n (runM n M S)) _ at h1 h2
    change Hs (runF n M n (runM n M S)) _
    rcases Nat.lt_or_ge m M with hmM | hmM
    · rw [it hx (by omega)] at h1
      rw [it (by omega) hy] at h2
      rw [it hx hy]
      rcases h1 with h1 | ⟨h1, h1'⟩ <;> rcases h2 with h2 | ⟨h2, h2'⟩
      · exact .inl (ih m x y hmM hx hy h1 h2)
      · exact .inr ⟨ih m x M hmM hx (by omega) h1 h2, h2'⟩
      · exact .inr ⟨h1, ih m M y hmM (by omega) hy h1' h2⟩
      · exact .inr ⟨h1, h2'⟩
    · obtain rfl : m = M := by omega
      rw [it hx (by omega)] at h1
      rw [it (by omega) hy] at h2
      rw [it hx hy]
      exact .inr ⟨h1.elim id And.left, h2.elim id And.right⟩
theorem vr_pairs {n : Nat} {A : List Int} (hA : VR n 2 A) : ∀ z ∈ A, ∃ u v, u < n ∧ v < n ∧ z = ((u * n + v : Nat) : Int) := fun z hz => by
  obtain ⟨m, rfl, hm⟩ := hA.nat hz
  rw [Nat.pow_two] at hm
  rcases Nat.eq_zero_or_pos n with rfl | hn
  · omega
  · obtain ⟨u, v, hu, hv, rfl⟩ := pair_of hn hm
    exact ⟨u, v, hu, hv, rfl⟩
/-- The closure holds the relation, is transitive, and lies in whatever does. -/
theorem clos_sub {n : Nat} {A : List Int} {z : Nat} (h : Hs A z) : Hs (uniq (closS n A)) z := mem_uniq.2 (runM_mono _ _ h)
theorem clos_trans {n : Nat} {A : List Int} (hA : VR n 2 A) {x m y : Nat} (hx : x < n) (hm : m < n) (hy : y < n) (h1 : Hs (uniq (closS n A)) (x * n + m)) (h2 : Hs (uniq (closS n A)) (m * n + y)) : Hs (uniq (closS n A)) (x * n + y) :=
  mem_uniq.2 (runM_closed n (Nat.le_refl _) (vr_pairs hA) m x y hm hx hy (mem_uniq.1 h1) (mem_uniq.1 h2))
theorem clos_min {n : Nat} {A : List Int} (R : Nat → Nat → Prop) (hR : ∀ x y, x < n → y < n → Hs A (x * n + y) → R x y) (hT : ∀ x m y, x < n → m < n → y < n → R x m → R m y → R x y) {x y : Nat} (hx : x < n) (hy : y < n) (h : Hs (uniq (closS n A)) (x * n + y)) : R x y := by
  have key := runM_all (P := fun z => ∀ u v, u < n → v < n → z = ((u * n + v : Nat) : Int) → R u v) (n := n) n A
    (fun z hz u v hu hv e => hR u v hu hv (by rw [Hs, ← e]; exact hz))
    (fun m' f' t' hm hf ht S' hS' h1 h2 u v hu hv e => by
      obtain ⟨rfl, rfl⟩ := pair_inj hv ht (by omega : u * n + v = f' * n + t')
      exact hT u m' v hu hm hv (hS' _ h1 u m' hu hm rfl) (hS' _ h2 m' v hm hv rfl))
  exact key _ (mem_uniq.1 h) x y hx hy rfl
/-- Two binary relations, pair by pair. -/
theorem vr2_ext {n : Nat} {A B : List Int} (hA : VR n 2 A) (hB : VR n 2 B) (h : ∀ x y, x < n → y < n → (Hs A (x * n + y) ↔ Hs B (x * n + y))) : A = B := vr_ext hA hB fun z hz => by
  rw [Nat.pow_two] at hz
  rcases Nat.eq_zero_or_pos n with rfl | hn
  · omega
  · obtain ⟨u, v, hu, hv, rfl⟩ := pair_of hn hz
    exact h u v hu hv
theorem vr2_sub {n : Nat} {A B : List Int} (hA : VR n 2 A) (h : ∀ x y, x < n → y < n → Hs A (x * n + y) → Hs B (x * n + y)) : ∀ z ∈ A, z ∈ B := fun z hz => by
  obtain ⟨u, v, hu, hv, rfl⟩ := vr_pairs hA z hz
  exact h u v hu hv hz
theorem hs_join2 {n : Nat} {A B : List Int} (hA : VR n 2 A) (hB : VR n 2 B) (hn : 1 ≤ n) {x y : Nat} (hy : y < n) : Hs (uniq (joinP n (n ^ (2 - 1)) A B)) (x * n + y) ↔ ∃ m, m < n ∧ Hs A (x * n + m) ∧ Hs B (m * n + y) := by
  have h := hs_join hA hB hn (by omega) (by omega) (u := x) (v := y) (by simpa using hy)
  simp only [show n ^ (2 - 1) = n by simp] at h ⊢
  exact h
theorem VR.join2 {n : Nat} {A B : List Int} (hA : VR n 2 A) (hB : VR n 2 B) (hn : 1 ≤ n) : VR n 2 (uniq (joinP n (n ^ (2 - 1)) A B)) := VR.join hA hB hn (by omega) (by omega)
end Go.Proofs.Ytkoigonbncpbaaa
