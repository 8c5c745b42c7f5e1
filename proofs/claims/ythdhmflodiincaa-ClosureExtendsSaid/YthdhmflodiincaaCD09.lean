/- Texts of the proof: KE KF KG KH QA QC QD QI QJ. -/
import Derived.Test.YthdhmflodiincaaCD08
import Derived.Test.YthdhmflodiincaaCD05
import Derived.Deep.DeepCutAuto
import Derived.Test.YthdhmflodiincaaCD01
import Derived.RangeFuncNested
import Derived.RangeFuncLeaves
import Derived.RangeFuncBound
import Derived.Shelf.Abstract
import Derived.Shelf.RegionOpen
import Derived.Sort.LoopGhostIn
import Derived.TacticsInMore
import Derived.LoopNIn
import Derived.LoopIn
import Derived.OwnWalkIn
import Derived.RegionIn
set_option maxRecDepth 100000
set_option maxHeartbeats 8000000
namespace Go.Proofs.Ythdhmflodiincaa

theorem two_same : ∀ (n : Nat) (v : Nat → Nat), (∀ i, i ≤ n → v i < n) → ∃ i j, i < j ∧ j ≤ n ∧ v i = v j
  | 0, v, h => absurd (h 0 (Nat.le_refl _)) (by omega)
  | n + 1, v, h => by
    by_cases hq : ∃ i, i ≤ n ∧ v i = v (n + 1)
    · obtain ⟨i, hi, e⟩ := hq
      exact ⟨i, n + 1, by omega, Nat.le_refl _, e⟩
    · obtain ⟨i, j, hij, hj, e⟩ := two_same n (fun i => if v i = n then v (n + 1) else v i) (fun i hi => by
        have h1 := h i (by omega)
        have h2 := h (n + 1) (Nat.le_refl _)
        have h3 : v i ≠ v (n + 1) := fun e => hq ⟨i, hi, e⟩
        show (if v i = n then v (n + 1) else v i) < n
        split <;> omega)
      have hi3 : v i ≠ v (n + 1) := fun e => hq ⟨i, by omega, e⟩
      have hj3 : v j ≠ v (n + 1) := fun e => hq ⟨j, hj, e⟩
      refine ⟨i, j, hij, by omega, ?_⟩
      split at e <;> split at e <;> omega
def Way (R : Nat → Nat → Prop) (n k x y : Nat) : Prop := ∃ (m : Nat) (v : Nat → Nat), 1 ≤ m ∧ m ≤ k ∧ v 0 = x ∧ v m = y ∧ (∀ i, i ≤ m → v i < n) ∧ ∀ i, i < m → R (v i) (v (i + 1))
section
variable {R : Nat → Nat → Prop} {n k x y : Nat}
theorem Way.wide {j : Nat} (h : Way R n k x y) (hj : k ≤ j) : Way R n j x y := by
  obtain ⟨m, v, h1, h2, h3⟩ := h
  exact ⟨m, v, h1, by omega, h3⟩
theorem way_one (hx : x < n) (hy : y < n) : Way R n 1 x y ↔ R x y := by
  constructor
  · rintro ⟨m, v, h1, h2, h3, h4, h5, h6⟩
    obtain rfl : m = 1 := by omega
    have := h6 0 (by omega)
    rwa [h3, h4] at this
  · intro h
    refine ⟨1, fun i => if i = 0 then x else y, Nat.le_refl _, Nat.le_refl _, rfl, rfl, fun i _ => ?_, fun i hi => ?_⟩
    · show (if i = 0 then x else y) < n
      split <;> assumption
    · obtain rfl : i = 0 := by omega
      exact h
theorem Way.join {j z : Nat} (h : Way R n j x z) (h2 : Way R n k z y) : Way R n (j + k) x y := by
  obtain ⟨m, v, a1, a2, a3, a4, a5, a6⟩ := h
  obtain ⟨p, u, b1, b2, b3, b4, b5, b6⟩ := h2
  refine ⟨m + p, fun i => if i ≤ m then v i else u (i - m), by omega, by omega, by simp [a3], ?_, fun i hi => ?_, fun i hi => ?_⟩
  · show (if m + p ≤ m then v (m + p) else u (m + p - m)) = y
    rw [if_neg (by omega), show m + p - m = p by omega, b4]
  · show (if i ≤ m then v i else u (i - m)) < n
    split
    · exact a5 i (by omega)
    · exact b5 _ (by omega)
  · show R (if i ≤ m then v i else u (i - m)) (if i + 1 ≤ m then v (i + 1) else u (i + 1 - m))
    by_cases h1 : i + 1 ≤ m
    · rw [if_pos (by omega), if_pos h1]; exact a6 i (by omega)
    · rw [if_neg h1]
      by_cases h2 : i ≤ m
      · have e : i = m := by omega
        subst e
        rw [if_pos h2, a4, ← b3, show i + 1 - i = 0 + 1 by omega]
        exact b6 0 (by omega)
      · rw [if_neg h2, show i + 1 - m = (i - m) + 1 by omega]
        exact b6 _ (by omega)
theorem Way.split (h : Way R n k x y) (j : Nat) (hj : 1 ≤ j) : Way R n j x y ∨ ∃ z, z < n ∧ Way R n j x z ∧ Way R n (k - j) z y := by
  obtain ⟨m, v, h1, h2, h3, h4, h5, h6⟩ := h
  by_cases hm : m ≤ j
  · exact .inl ⟨m, v, h1, hm, h3, h4, h5, h6⟩
  · refine .inr ⟨v j, h5 j (by omega), ⟨j, v, hj, Nat.le_refl _, h3, rfl, fun i hi => h5 i (by omega), fun i hi => h6 i (by omega)⟩, ⟨m - j, fun i => v (j + i), by omega, by omega, rfl, ?_, fun i hi => h5 _ (by omega), fun i hi => h6 (j + i) (by omega)⟩⟩
    show v (j + (m - j)) = y
    rw [show j + (m - j) = m by omega, h4]
theorem way_double (hk : 1 ≤ k) : Way R n (2 * k) x y ↔ Way R n k x y ∨ ∃ z, z < n ∧ Way R n k x z ∧ Way R n k z y := by
  constructor
  · intro h
    have := h.split k hk
    rwa [show 2 * k - k = k by omega] at this
  · rintro (h | ⟨z, _, h1, h2⟩)
    · exact h.wide (by omega)
    · have := h1.join h2
      rwa [show k + k = 2 * k by omega] at this
theorem way_step (hk : 1 ≤ k) (hx : x < n) (hy : y < n) : Way R n (k + 1) x y ↔ R x y ∨ ∃ z, z < n ∧ Way R n k x z ∧ R z y := by
  constructor
  · intro h
    obtain ⟨m, v, h1, h2, h3, h4, h5, h6⟩ := h
    by_cases hm : m = 1
    · subst hm
      have := h6 0 (by omega)
      rw [h3, h4] at this
      exact .inl this
    · refine .inr ⟨v (m - 1), h5 _ (by omega), ⟨m - 1, v, by omega, by omega, h3, rfl, fun i hi => h5 i (by omega), fun i hi => h6 i (by omega)⟩, ?_⟩
      have := h6 (m - 1) (by omega)
      rwa [show m - 1 + 1 = m by omega, h4] at this
  · rintro (h | ⟨z, hz, h1, h2⟩)
    · exact ((way_one hx hy).2 h).wide (by omega)
    · exact h1.join ((way_one hz hy).2 h2)
theorem way_short : ∀ (m : Nat) {x y : Nat} (v : Nat → Nat), 1 ≤ m → v 0 = x → v m = y → (∀ i, i ≤ m → v i < n) → (∀ i, i < m → R (v i) (v (i + 1))) → Way R n n x y := by
  intro m
  induction m using Nat.strongRecOn with
  | _ m ih =>
    intro x y v h1 h3 h4 h5 h6
    by_cases hm : m ≤ n
    · exact ⟨m, v, h1, hm, h3, h4, h5, h6⟩
    · obtain ⟨i, j, hij, hj, e⟩ := two_same n (fun i => v (i + 1)) (fun i hi => h5 _ (by omega))
      have e' : v (i + 1) = v (j + 1) := e
      refine ih (m - (j - i)) (by omega) (fun q => if q ≤ i + 1 then v q else v (q + (j - i))) (by omega) (by simp [h3]) ?_ (fun q hq => ?_) (fun q hq => ?_)
      · show (if m - (j - i) ≤ i + 1 then v (m - (j - i)) else v (m - (j - i) + (j - i))) = y
        by_cases h : m - (j - i) ≤ i + 1
        · rw [if_pos h, show m - (j - i) = i + 1 by omega, e', show j + 1 = m by omega, h4]
        · rw [if_neg h, show m - (j - i) + (j - i) = m by omega, h4]
      · show (if q ≤ i + 1 then v q else v (q + (j - i))) < n
        split
        · exact h5 _ (by omega)
        · exact h5 _ (by omega)
      · show R (if q ≤ i + 1 then v q else v (q + (j - i))) (if q + 1 ≤ i + 1 then v (q + 1) else v (q + 1 + (j - i)))
        by_cases h7 : q + 1 ≤ i + 1
        · rw [if_pos (by omega), if_pos h7]; exact h6 _ (by omega)
        · rw [if_neg h7]
          by_cases h8 : q ≤ i + 1
          · have eq : q = i + 1 := by omega
            subst eq
            rw [if_pos h8, e', show i + 1 + 1 + (j - i) = (j + 1) + 1 by omega]
            exact h6 _ (by omega)
          · rw [if_neg h8, show q + 1 + (j - i) = (q + (j - i)) + 1 by omega]
            exact h6 _ (by omega)
theorem Way.short (h : Way R n k x y) : Way R n n x y := by
  obtain ⟨m, v, h1, _, h3, h4, h5, h6⟩ := h
  exact way_short m v h1 h3 h4 h5 h6
theorem Way.trans {z j : Nat} (hn : n ≤ j) (h : Way R n k x z) (h2 : Way R n k z y) : Way R n j x y := (h.join h2).short.wide hn
end
theorem join_val {gs : List Gt} {a b : List Cl} {n : Nat} (hG : Good gs) (ha : Mat gs a) (hb : Mat gs b) (ra : ∀ c ∈ a, 0 ≤ c.1 ∧ c.1 < (n : Int) * n) (rb : ∀ c ∈ b, 0 ≤ c.1 ∧ c.1 < (n : Int) * n) (v : List Bool) {x y : Nat} (_hx : x < n) (hy : y < n) :
    ((jPairs n n a b).any fun p => decide (jr n n p = (x : Int) * n + y) && (valC gs v p.1.2 && valC gs v p.2.2)) = true ↔ ∃ z : Nat, z < n ∧ hasV gs v a ((x : Int) * n + z) = true ∧ hasV gs v b ((z : Int) * n + y) = true := by
  have hn : (0 : Int) < n := by omega
  have hdiv : ∀ (p q : Nat), q < n → ((p : Int) * n + q) / n = p ∧ ((p : Int) * n + q) % n = q := fun p q hq => by
    have e1 : ((p : Int) * n + q) / n = p := by rw [Int.add_comm, Int.add_mul_ediv_right _ _ (by omega), Int.ediv_eq_zero_of_lt (by omega) (by omega), Int.zero_add]
    have e2 : ((p : Int) * n + q) % n = q := by rw [Int.add_comm, Int.add_mul_emod_self_right]; exact Int.emod_eq_of_lt (by omega) (by omega)
    exact ⟨e1, e2⟩
  rw [List.any_eq_true]
  constructor
  · rintro ⟨p, hp, h⟩
    obtain ⟨h1, h2⟩ := List.mem_filter.1 hp
    obtain ⟨pa, pb⟩ := mem_pairs.1 h1
    rw [Bool.and_eq_true, Bool.and_eq_true, decide_eq_true_eq] at h
    obtain ⟨h3, h4, h5⟩ := h
    have h2' : p.1.1 % (n : Int) = p.2.1 / (n : Int) := by simpa using h2
    have ra1 := ra _ pa
    have rb1 := rb _ pb
    have m0 := Int.emod_nonneg p.1.1 (show (n : Int) ≠ 0 by omega)
    have m1 := Int.emod_lt_of_pos p.1.1 hn
    have n0 := Int.emod_nonneg p.2.1 (show (n : Int) ≠ 0 by omega)
    have n1 := Int.emod_lt_of_pos p.2.1 hn
    have d0 := Int.ediv_nonneg ra1.1 (show (0 : Int) ≤ n by omega)
    obtain ⟨z, hz⟩ : ∃ z : Nat, p.1.1 % (n : Int) = (z : Int) := ⟨(p.1.1 % (n : Int)).toNat, by omega⟩
    obtain ⟨u, hu⟩ : ∃ u : Nat, p.1.1 / (n : Int) = (u : Int) := ⟨(p.1.1 / (n : Int)).toNat, by omega⟩
    obtain ⟨t, ht⟩ : ∃ t : Nat, p.2.1 % (n : Int) = (t : Int) := ⟨(p.2.1 % (n : Int)).toNat, by omega⟩
    have e1 : p.1.1 = (u : Int) * n + z := by have := Int.mul_ediv_add_emod p.1.1 (n : Int); rw [hu, hz, Int.mul_comm] at this; exact this.symm
    have e2 : p.2.1 = (z : Int) * n + t := by have := Int.mul_ediv_add_emod p.2.1 (n : Int); rw [← h2', hz, ht, Int.mul_comm] at this; exact this.symm
    unfold jr at h3
    rw [hu, ht] at h3
    have q1 := hdiv u t (by omega)
    have q2 := hdiv x y hy
    rw [h3] at q1
    have eu : (u : Int) = x := by rw [← q1.1, q2.1]
    have et : (t : Int) = y := by rw [← q1.2, q2.2]
    refine ⟨z, by omega, ?_, ?_⟩
    · rw [← eu, ← e1]; unfold hasV; rw [at_of_mem ha.1 pa]; exact h4
    · rw [← et, ← e2]; unfold hasV; rw [at_of_mem hb.1 pb]; exact h5
  · rintro ⟨z, hz, h1, h2⟩
    have m1 : ((x : Int) * n + z, atM a ((x : Int) * n + z)) ∈ a := by
      rcases @atM_mem a ((x : Int) * n + z) with h | h
      · unfold hasV at h1; rw [h, val_false hG] at h1; cases h1
      · exact h
    have m2 : ((z : Int) * n + y, atM b ((z : Int) * n + y)) ∈ b := by
      rcases @atM_mem b ((z : Int) * n + y) with h | h
      · unfold hasV at h2; rw [h, val_false hG] at h2; cases h2
      · exact h
    refine ⟨((_, _), (_, _)), List.mem_filter.2 ⟨mem_pairs.2 ⟨m1, m2⟩, ?_⟩, ?_⟩
    · simp only [(hdiv x z hz).2, (hdiv z y hy).1, beq_self_eq_true]
    · unfold jr
      simp only [(hdiv x z hz).1, (hdiv z y hy).2, Bool.and_eq_true, decide_eq_true_eq]
      exact ⟨trivial, h1, h2⟩
end Go.Proofs.Ythdhmflodiincaa

namespace Go.Proofs.Ythdhmflodiincaa

theorem up_len : ∀ (m : List Cl) (lo : Int) (n : Nat), UpM m → (∀ c ∈ m, lo ≤ c.1 ∧ c.1 < lo + n) → m.length ≤ n
  | [], _, _, _, _ => Nat.zero_le _
  | x :: m, lo, n, h, hb => by
    obtain ⟨h1, h2⟩ := upM_cons.1 h
    have hx := hb x (by simp)
    have := up_len m (x.1 + 1) (n - 1) h2 (fun c hc => by have := h1 c hc; have := hb c (by simp [hc]); omega)
    rw [List.length_cons]
    omega
theorem jPairs_len {n rest : Int} {b : List Cl} {k : Nat} : ∀ (a : List Cl), (∀ x ∈ a, (b.filter fun y => x.1 % n == y.1 / rest).length ≤ k) → (jPairs n rest a b).length ≤ a.length * k
  | [], _ => by simp [jPairs, allPairs]
  | x :: a, h => by
    have ih := jPairs_len a (fun y hy => h y (by simp [hy]))
    have hx := h x (by simp)
    unfold jPairs allPairs at ih ⊢
    rw [List.flatMap_cons, List.filter_append, List.length_append, List.length_cons, Nat.succ_mul]
    have e : ((b.map fun y => (x, y)).filter fun p => p.1.1 % n == p.2.1 / rest).length = (b.filter fun y => x.1 % n == y.1 / rest).length := by
      rw [List.filter_map, List.length_map]
      rfl
    omega
def Sq (n : Nat) (g : List Gt) (m : List Cl) : Prop := Mat g m ∧ ∀ c ∈ m, 0 ≤ c.1 ∧ c.1 < (n : Int) * n
theorem Sq.grow {n : Nat} {g g' : List Gt} {m : List Cl} (h : Sq n g m) (hp : g <+: g') : Sq n g' m := ⟨h.1.grow hp, h.2⟩
theorem Sq.len {n : Nat} {g : List Gt} {m : List Cl} (h : Sq n g m) : m.length ≤ n * n := up_len m 0 (n * n) h.1.1 (fun c hc => by have := h.2 c hc; rw [Int.zero_add, Int.natCast_mul]; exact this)
theorem sq_pairs {n : Nat} {g : List Gt} {a b : List Cl} (ha : Sq n g a) (hb : Sq n g b) : (jPairs n n a b).length ≤ n * n * n := by
  refine Nat.le_trans (jPairs_len a (k := n) (fun x hx => ?_)) (Nat.mul_le_mul_right _ ha.len)
  have h0 := ha.2 x hx
  by_cases hn : n = 0
  · subst hn; omega
  have hn' : (0 : Int) < n := by omega
  refine up_len _ (x.1 % n * n) n (hb.1.1.sublist (List.Sublist.map _ List.filter_sublist)) (fun c hc => ?_)
  obtain ⟨_, h2⟩ := List.mem_filter.1 hc
  have h3 : x.1 % (n : Int) = c.1 / (n : Int) := by simpa using h2
  rw [h3]
  have e := Int.mul_ediv_add_emod c.1 (n : Int)
  have e1 := Int.emod_nonneg c.1 (show (n : Int) ≠ 0 by omega)
  have e2 := Int.emod_lt_of_pos c.1 hn'
  rw [Int.mul_comm] at e
  omega
def relM (g : List Gt) (v : List Bool) (n : Nat) (m : List Cl) (x y : Nat) : Prop := hasV g v m ((x : Int) * n + y) = true
theorem relM_grow {gs g : List Gt} (hp : gs <+: g) (hG : Good gs) {n : Nat} {m : List Cl} (h : Sq n gs m) (v : List Bool) (x y : Nat) : relM g v n m x y ↔ relM gs v n m x y := by unfold relM; rw [has_grow hp hG h.1]
theorem rank_lt {n x y : Nat} (hx : x < n) (hy : y < n) : 0 ≤ (x : Int) * n + y ∧ (x : Int) * n + y < (n : Int) * n := by
  have h1 : (x + 1) * n ≤ n * n := Nat.mul_le_mul_right _ hx
  rw [Nat.succ_mul] at h1
  have h2 : ((x * n : Nat) : Int) + n ≤ ((n * n : Nat) : Int) := by omega
  rw [Int.natCast_mul, Int.natCast_mul] at h2
  have h3 : (0 : Int) ≤ (x : Int) * n := Int.mul_nonneg (by omega) (by omega)
  omega
section
variable {gs : List Gt} {n : Nat} {a b : List Cl}
theorem safe_joinSq (hG : Good gs) (ha : Sq n gs a) (hb : Sq n gs b) (hl : gs.length + 2 * (n * n * n) ≤ 19900) :
    (mjoinP n n (n * n) a b).safe gs (fun g m => Grew gs (2 * (n * n * n)) g ∧ Sq n g m ∧ ∀ v x y, x < n → y < n → (relM g v n m x y ↔ ∃ z, z < n ∧ relM gs v n a x z ∧ relM gs v n b z y)) := by
  have hlen := sq_pairs ha hb
  have h := safe_foldP (f := jF n n) (fun g j s => Grew gs (2 * j) g ∧ (∀ k, Ok g (s k)) ∧ ∀ v k, valC g v (s k) = ((jPairs n n a b).take j).any fun p => decide (jr n n p = k) && (valC gs v p.1.2 && valC gs v p.2.2)) (jPairs n n a b) 0 gs (fun _ => 1)
    ⟨(Grew.refl hG).wide (Nat.zero_le _), fun _ => (one_ok hG).1, fun v k => by simp [val_false hG]⟩
    (fun j p g s hj hs => by
      rw [Nat.zero_add] at hs ⊢
      obtain ⟨h1, h2, h3⟩ := hs
      have hm := mem_pairs.1 (List.mem_filter.1 (List.mem_of_getElem? hj)).1
      have hj1 := (List.getElem?_eq_some_iff.1 hj).1
      have l1 := h1.len
      have p1 := h1.pre.length_le
      have o1 := (ha.1.2 _ hm.1).1
      have o2 := (hb.1.2 _ hm.2).1
      refine Pr.safe_mono (fun g' s' hh => ?_) _ (safe_jF (n := n) (rest := n) h1.good (by omega) h2 (show Ok g p.1.2 by unfold Ok at *; omega) (show Ok g p.2.2 by unfold Ok at *; omega))
      obtain ⟨e1, e2, e3⟩ := hh
      refine ⟨by rw [Nat.mul_succ]; exact h1.trans e1, e2, fun v k => ?_⟩
      rw [e3 v k, h3 v k, val_grow h1.pre o1, val_grow h1.pre o2, List.take_add_one, hj, List.any_append]
      simp)
  rw [Nat.zero_add] at h
  refine Pr.safe_bind _ (Pr.safe_mono (fun g t ht => ?_) _ h)
  obtain ⟨h1, h2, h3⟩ := ht
  refine Pr.safe_mono (fun g' m hm => ?_) _ (safe_ofTab h1.good (ranksTo_up (n * n)) h2)
  refine ⟨(h1.trans hm.grew).wide (by omega), ⟨hm.mat (ranksTo_up _), fun c hc => ?_⟩, fun v x y hx hy => ?_⟩
  · have := mem_ranksTo.1 (hm.up.mem (List.mem_map_of_mem hc))
    rw [Int.natCast_mul] at this
    exact this
  · have hr := rank_lt hx hy
    have hv := hm.val v ((x : Int) * n + y)
    rw [decide_eq_true (mem_ranksTo.2 (by rw [Int.natCast_mul]; exact hr)), Bool.true_and, h3 v, List.take_length] at hv
    unfold relM
    rw [show hasV g' v m ((x : Int) * n + y) = _ from hv]
    exact join_val hG ha.1 hb.1 ha.2 hb.2 v hx hy
theorem safe_unionSq (hG : Good gs) (ha : Sq n gs a) (hb : Sq n gs b) (hl : gs.length + 2 * (n * n) ≤ 19900) :
    (munionP a b).safe gs (fun g m => Grew gs (2 * (n * n)) g ∧ Sq n g m ∧ ∀ v x y, (relM g v n m x y ↔ relM gs v n a x y ∨ relM gs v n b x y)) := by
  have la := ha.len
  have lb := hb.len
  obtain ⟨hs, hmem⟩ := rk_spec (a.length + b.length) a b (Nat.le_refl _) ha.1.1 hb.1.1
  refine Pr.safe_mono (fun g m h => ⟨h.grew.wide (by omega), ⟨h.mat hs, fun c hc => ?_⟩, fun v x y => ?_⟩) _ (safe_munionP hG ha.1 hb.1 (by omega))
  · rcases (hmem _).1 (h.up.mem (List.mem_map_of_mem hc)) with ⟨d, hd, e⟩ | ⟨d, hd, e⟩
    · have := ha.2 d hd; rw [← e]; exact this
    · have := hb.2 d hd; rw [← e]; exact this
  · have hv := h.val v ((x : Int) * n + y)
    unfold relM
    rw [show hasV g v m ((x : Int) * n + y) = _ from hv, Bool.and_eq_true, Bool.or_eq_true, decide_eq_true_eq]
    constructor
    · exact fun hh => hh.2
    · intro hh
      refine ⟨(hmem _).2 ?_, hh⟩
      rcases hh with hh | hh
      · refine .inl ?_
        rcases @atM_mem a ((x : Int) * n + y) with e | e
        · unfold hasV at hh; rw [e, val_false hG] at hh; cases hh
        · exact ⟨_, e, rfl⟩
      · refine .inr ?_
        rcases @atM_mem b ((x : Int) * n + y) with e | e
        · unfold hasV at hh; rw [e, val_false hG] at hh; cases hh
        · exact ⟨_, e, rfl⟩
def squareP (n : Nat) (m : List Cl) : Pr (List Cl) := (mjoinP n n (n * n) m m).bind fun t => munionP m t
def stepwP (n : Nat) (a m : List Cl) : Pr (List Cl) := (mjoinP n n (n * n) m a).bind fun t => munionP a t
def roundC (n : Nat) : Nat := 2 * (n * n * n) + 2 * (n * n)
theorem safe_squareP {m : List Cl} (hG : Good gs) (hm : Sq n gs m) (hl : gs.length + roundC n ≤ 19900) :
    (squareP n m).safe gs (fun g m' => Grew gs (roundC n) g ∧ Sq n g m' ∧ ∀ v x y, x < n → y < n → (relM g v n m' x y ↔ relM gs v n m x y ∨ ∃ z, z < n ∧ relM gs v n m x z ∧ relM gs v n m z y)) := by
  unfold roundC at *
  refine Pr.safe_bind _ (Pr.safe_mono (fun g t ht => ?_) _ (safe_joinSq hG hm hm (by omega)))
  obtain ⟨h1, h2, h3⟩ := ht
  have l1 := h1.len
  refine Pr.safe_mono (fun g' u hu => ⟨h1.trans hu.1, hu.2.1, fun v x y hx hy => ?_⟩) _ (safe_unionSq h1.good (hm.grow h1.pre) h2 (by omega))
  rw [hu.2.2 v x y, relM_grow h1.pre hG hm, h3 v x y hx hy]
theorem safe_stepwP {m : List Cl} (hG : Good gs) (ha : Sq n gs a) (hm : Sq n gs m) (hl : gs.length + roundC n ≤ 19900) :
    (stepwP n a m).safe gs (fun g m' => Grew gs (roundC n) g ∧ Sq n g m' ∧ ∀ v x y, x < n → y < n → (relM g v n m' x y ↔ relM gs v n a x y ∨ ∃ z, z < n ∧ relM gs v n m x z ∧ relM gs v n a z y)) := by
  unfold roundC at *
  refine Pr.safe_bind _ (Pr.safe_mono (fun g t ht => ?_) _ (safe_joinSq hG hm ha (by omega)))
  obtain ⟨h1, h2, h3⟩ := ht
  have l1 := h1.len
  refine Pr.safe_mono (fun g' u hu => ⟨h1.trans hu.1, hu.2.1, fun v x y hx hy => ?_⟩) _ (safe_unionSq h1.good (ha.grow h1.pre) h2 (by omega))
  rw [hu.2.2 v x y, relM_grow h1.pre hG ha, h3 v x y hx hy]
def roundsP (f : List Cl → Pr (List Cl)) (k : Nat) (m : List Cl) : Pr (List Cl) := foldP (fun m (_ : Nat) => f m) (List.range k) m
theorem safe_squares (hG : Good gs) (ha : Sq n gs a) (k : Nat) (hl : gs.length + roundC n * k ≤ 19900) :
    (roundsP (squareP n) k a).safe gs (fun g m => Grew gs (roundC n * k) g ∧ Sq n g m ∧ ∀ v x y, x < n → y < n → (relM g v n m x y ↔ Way (relM gs v n a) n (2 ^ k) x y)) := by
  have h := safe_foldP (f := fun m (_ : Nat) => squareP n m) (fun g j m => Grew gs (roundC n * j) g ∧ Sq n g m ∧ ∀ v x y, x < n → y < n → (relM g v n m x y ↔ Way (relM gs v n a) n (2 ^ j) x y)) (List.range k) 0 gs a
    ⟨(Grew.refl hG).wide (Nat.zero_le _), ha, fun v x y hx hy => (way_one hx hy).symm⟩
    (fun j _ g m hj hs => by
      rw [Nat.zero_add] at hs ⊢
      obtain ⟨h1, h2, h3⟩ := hs
      have hj1 := (List.getElem?_eq_some_iff.1 hj).1
      rw [List.length_range] at hj1
      have l1 := h1.len
      have hmul : roundC n * (j + 1) ≤ roundC n * k := Nat.mul_le_mul_left _ hj1
      rw [Nat.mul_succ] at hmul ⊢
      refine Pr.safe_mono (fun g' u hu => ⟨h1.trans hu.1, hu.2.1, fun v x y hx hy => ?_⟩) _ (safe_squareP h1.good h2 (by omega))
      rw [hu.2.2 v x y hx hy, Nat.pow_succ, Nat.mul_comm, way_double (Nat.one_le_two_pow), h3 v x y hx hy]
      refine or_congr_right (exists_congr fun z => and_congr_right fun hz => ?_)
      rw [h3 v x z hx hz, h3 v z y hz hy])
  rw [Nat.zero_add, List.length_range] at h
  exact h
theorem safe_steps (hG : Good gs) (ha : Sq n gs a) (k : Nat) (hl : gs.length + roundC n * k ≤ 19900) :
    (roundsP (stepwP n a) k a).safe gs (fun g m => Grew gs (roundC n * k) g ∧ Sq n g m ∧ ∀ v x y, x < n → y < n → (relM g v n m x y ↔ Way (relM gs v n a) n (k + 1) x y)) := by
  have h := safe_foldP (f := fun m (_ : Nat) => stepwP n a m) (fun g j m => Grew gs (roundC n * j) g ∧ Sq n g m ∧ ∀ v x y, x < n → y < n → (relM g v n m x y ↔ Way (relM gs v n a) n (j + 1) x y)) (List.range k) 0 gs a
    ⟨(Grew.refl hG).wide (Nat.zero_le _), ha, fun v x y hx hy => (way_one hx hy).symm⟩
    (fun j _ g m hj hs => by
      rw [Nat.zero_add] at hs ⊢
      obtain ⟨h1, h2, h3⟩ := hs
      have hj1 := (List.getElem?_eq_some_iff.1 hj).1
      rw [List.length_range] at hj1
      have l1 := h1.len
      have hmul : roundC n * (j + 1) ≤ roundC n * k := Nat.mul_le_mul_left _ hj1
      rw [Nat.mul_succ] at hmul ⊢
      refine Pr.safe_mono (fun g' u hu => ⟨h1.trans hu.1, hu.2.1, fun v x y hx hy => ?_⟩) _ (safe_stepwP h1.good (ha.grow h1.pre) h2 (by omega))
      rw [hu.2.2 v x y hx hy, way_step (Nat.le_add_left 1 j) hx hy, relM_grow h1.pre hG ha]
      refine or_congr_right (exists_congr fun z => and_congr_right fun hz => ?_)
      rw [h3 v x z hx hz, relM_grow h1.pre hG ha])
  rw [Nat.zero_add, List.length_range] at h
  exact h
end
end Go.Proofs.Ythdhmflodiincaa

namespace Go.Proofs.Ythdhmflodiincaa
open Go.RowKit Go.Maps

def CellAt (w : World) (b o : Nat) (x : Cl) : Prop := w.cell? ⟨b, o, none⟩ = some (.int .i64 x.1) ∧ w.cell? ⟨b, o + 1, none⟩ = some (.int .i64 x.2)
theorem CellAt.grown {w w' : World} {b o : Nat} {x : Cl} (h : CellAt w b o x) (hg : w.grownBy w' none) : CellAt w' b o x := ⟨hg.cell h.1 (by simp), hg.cell h.2 (by simp)⟩
def CellsW (w : World) (a : Option Addr) (c : Nat) (m : List Cl) : Prop :=
  m.length ≤ c ∧ (m = [] ∨ ∃ b o, a = some ⟨b, o, none⟩ ∧ ∀ (j : Nat) (x : Cl), m[j]? = some x → CellAt w b (o + j * 2) x)
theorem CellsW.grown {w w' : World} {a : Option Addr} {c : Nat} {m : List Cl} (h : CellsW w a c m) (hg : w.grownBy w' none) : CellsW w' a c m := by
  obtain ⟨hc, h | ⟨b, o, ha, hz⟩⟩ := h
  · exact ⟨hc, .inl h⟩
  · exact ⟨hc, .inr ⟨b, o, ha, fun j z hj => (hz j z hj).grown hg⟩⟩
theorem CellsW.at {w : World} {a : Option Addr} {c : Nat} {m : List Cl} (h : CellsW w a c m) {i : Nat} {x : Cl} (hz : m[i]? = some x) : ∃ b o, a = some ⟨b, o, none⟩ ∧ CellAt w b (o + i * 2) x := by
  obtain ⟨_, h | ⟨b, o, ha, hc⟩⟩ := h
  · rw [h] at hz; simp at hz
  · exact ⟨b, o, ha, hc i x hz⟩
end Go.Proofs.Ythdhmflodiincaa

namespace Go.Proofs.Ythdhmflodiincaa
open Go.RowKit Go.Maps

def clCells (m : List Cl) : List Value := m.flatMap fun x => [.int .i64 x.1, .int .i64 x.2]
theorem clCells_len (m : List Cl) : (clCells m).length = m.length * 2 := by
  unfold clCells
  induction m with
  | nil => rfl
  | cons x m ih => rw [List.flatMap_cons, List.length_append, ih]; simp; omega
theorem clCells_app (l m : List Cl) : clCells (l ++ m) = clCells l ++ clCells m := List.flatMap_append
theorem clCells_at : ∀ {m : List Cl} {j : Nat} {x : Cl}, m[j]? = some x → (clCells m)[j * 2]? = some (.int .i64 x.1) ∧ (clCells m)[j * 2 + 1]? = some (.int .i64 x.2)
  | [], _, _, h => by simp at h
  | y :: m, 0, x, h => by simp at h; subst h; exact ⟨rfl, rfl⟩
  | y :: m, j + 1, x, h => by
    have ih := clCells_at (m := m) (j := j) (x := x) (by simpa using h)
    have e : clCells (y :: m) = .int .i64 y.1 :: .int .i64 y.2 :: clCells m := rfl
    rw [e, show (j + 1) * 2 = j * 2 + 2 by omega]
    exact ih
theorem infoCl : (Try.prog.info? 71).map (fun i => (i.zero, i.size, i.bytes)) = some (some (.agg #[.int .i64 0, .int .i64 0]), 2, 16) := by kernel_rfl
theorem cells_new_at (w : World) (x : Cl) : ∀ j u, (clCells [x])[j]? = some u → (w.alloc (.cells #[.int .i64 x.1, .int .i64 x.2] 71)).cell? ((⟨w.heap.size, 0, none⟩ : Addr).add j) = some u := by
  intro j u hj
  have hc := one_cells w (.int .i64 x.1) (.int .i64 x.2) 71
  rcases j with _ | _ | j
  · have e : some (Value.int .i64 x.1) = some u := hj
    cases e
    exact hc.2.1
  · have e : some (Value.int .i64 x.2) = some u := hj
    cases e
    exact hc.2.2.1
  · have e : ([] : List Value)[j]? = some u := hj
    simp at e
theorem kept_calls (B : Nat) (m : List Cl) (a : Option Addr) (n c : Nat) (k r : Int) (w : World) (hown : w.ownsRow B 71 2 (.slice a n c) n (clCells m)) (hn : m.length = n) (hl : n ≤ 1000) (hB : B ≤ w.heap.size) :
    Calls Try.prog 74 #[.slice a n c, .int .i64 k, .int .i64 r] w fun e w' => ∃ a' n' c', e = .returned (.slice a' n' c') ∧ w'.ownsRow B 71 2 (.slice a' n' c') n' (clCells (keptM m k r)) ∧ (keptM m k r).length = n' ∧ w.grownBy w' (Value.slice a n c).ownBlock ∧ ∀ b, (Value.slice a' n' c').ownBlock = some b → (Value.slice a n c).ownBlock = some b ∨ w.heap.size ≤ b := by
  obtain ⟨i0, hi0, hz0, hz1, hz2⟩ := info_parts infoCl
  have HO := Lib.hid hown
  have HN := Lib.hid hn
  clear hown hn
  by_cases hr : r = 1
  · have e1 : (r == 1) = true := by simp [hr]
    have HR := Lib.hid (show keptM m k r = m from by unfold keptM; rw [if_pos hr])
    clear hr
    go_enter Try.func74, Try.ntmps74
    go_wp2_with fail
    go_ret
    exact ⟨a, n, c, rfl, by rw [HR.out]; exact HO.out, by rw [HR.out]; exact HN.out, grown_refl _ _, fun b e => .inl e⟩
  · have e1 : (r == 1) = false := by simp [hr]
    have HR := Lib.hid (show keptM m k r = m ++ [(k, r)] from by unfold keptM; rw [if_neg hr])
    obtain ⟨Lk, hLk⟩ : ∃ L, clCells m = L := ⟨_, rfl⟩
    have HL := Lib.hid hLk
    rw [hLk] at HO
    have HLL := Lib.hid (show Lk.length = n * 2 from by rw [← hLk, clCells_len, HN.out])
    clear hr hLk
    have hnew := cells_new_at w (k, r)
    go_enter Try.func74, Try.ntmps74
    go_wp2_with (at_builtin; refine wpList_append_own_at _ rfl _ _ 24 rfl B 71 i0 (.agg #[.int .i64 0, .int .i64 0]) 2 16 Try.underlying24 hi0 hz0 hz1 hz2 rfl (by decide) _ n Lk rfl (HO.out.alloc _) ⟨w.heap.size, 0, none⟩ 1 1 [.int .i64 k, .int .i64 r] rfl rfl hnew (fun u hu => by simp at hu; rcases hu with rfl | rfl <;> rfl) (by unfold maxLen; omega) (by omega) (by simp; omega) ?_)
    intro v' w6 hown' hgrow6 _ hat6
    obtain ⟨rgA, rcA, rfl⟩ := own_shape hown'
    have HS := Lib.hid (show w6.ownsRow B 71 2 (.slice rgA (n + 1) rcA) (n + 1) (clCells (keptM m k r)) from by rw [HR.out, clCells_app, HL.out]; exact hown')
    have HGW := Lib.hid (World.grownBy.trans (World.grownBy_alloc w (.cells #[.int .i64 k, .int .i64 r] 71) _) hgrow6)
    have HAT := Lib.hid (show ∀ b, (Value.slice rgA (n + 1) rcA).ownBlock = some b → (Value.slice a n c).ownBlock = some b ∨ w.heap.size ≤ b from fun b e => by
      rcases hat6 with h | h
      · exact .inl (h.symm.trans e)
      · rw [h] at e; cases e; exact .inr (by simp))
    have HLN := Lib.hid (show (keptM m k r).length = n + 1 from by rw [HR.out, List.length_append, HN.out]; rfl)
    clear hown' hgrow6 hat6 hnew
    go_wp2_with fail
    go_ret
    exact ⟨rgA, n + 1, rcA, rfl, HS.out, HLN.out, HGW.out, HAT.out⟩
end Go.Proofs.Ythdhmflodiincaa

namespace Go.Proofs.Ythdhmflodiincaa
set_option maxRecDepth 100000
open Go.RowKit Go.Maps

theorem newb_calls (gs : List Gt) (a : Option Addr) (c : Nat) (w : World) (h : GatesW w a c gs) :
    Calls Try.prog 72 #[.agg #[.slice a gs.length c]] w fun e w' => ∃ q p, e = .returned (.pointer (some ⟨q, 0, none⟩)) ∧ w.heap.size ≤ p ∧ w.heap.size ≤ q ∧ p ≠ q ∧ w'.cell? ⟨q, 0, none⟩ = some (.pointer (some ⟨p, 0, none⟩)) ∧ GX p (fun k => k = p) w' gs 0 ∧ w.grownBy w' none := by
  have HF := Lib.hid (fun (U : World) (hU : GatesW U a c gs) => from_calls gs a c U hU)
  have HH := Lib.hid h
  clear h
  go_enter Try.func72, Try.ntmps72
  go_wp2_with fail
  have hg1 := World.grownBy_alloc w (.cells #[.slice a gs.length c] 30) none
  obtain ⟨W, hW⟩ : ∃ z, w.alloc (.cells #[.slice a gs.length c] 30) = z := ⟨_, rfl⟩
  rw [hW] at hg1 ⊢
  clear hW
  have HG1 := Lib.hid hg1
  refine (HF.out W (HH.out.grown hg1)).mono ?_
  rintro e w2 ⟨p, rfl, hp, hgr, hg2⟩
  have HP := Lib.hid hp
  have HGR := Lib.hid hgr
  have HG2 := Lib.hid (World.grownBy.trans hg1 hg2)
  clear hg1 hg2 hgr hp
  go_wp2_with fail
  go_ret
  have hb := one_cell w2 (.pointer (some ⟨p, 0, none⟩)) 88
  have hga := World.grownBy_alloc w2 (.cells #[.pointer (some ⟨p, 0, none⟩)] 88) none
  have hpl : p < w2.heap.size := lies_lt HGR.out.c0
  exact ⟨w2.heap.size, p, rfl, Nat.le_trans HG1.out.size HP.out, HG2.out.size, by omega, hb.2.1, (GX.of HGR.out).grown hga, World.grownBy.trans HG2.out hga⟩
def IntsN (N : Nat → Prop) (w : World) (a : Option Addr) (c : Nat) (zs : List Int) : Prop :=
  zs.length ≤ c ∧ (zs = [] ∨ ∃ b o, a = some ⟨b, o, none⟩ ∧ ¬ N b ∧ b < w.heap.size ∧ ∀ (j : Nat) (z : Int), zs[j]? = some z → w.cell? ⟨b, o + j, none⟩ = some (.int .i64 z))
theorem IntsN.off {N N' : Nat → Prop} {w w' : World} {a : Option Addr} {c : Nat} {zs : List Int} (h : IntsN N w a c zs) (ho : Off N w w') (hn : ∀ k, N' k → N k ∨ w.heap.size ≤ k) : IntsN N' w' a c zs := by
  obtain ⟨hc, h | ⟨b, o, ha, hb, hl, hz⟩⟩ := h
  · exact ⟨hc, .inl h⟩
  · exact ⟨hc, .inr ⟨b, o, ha, fun h => by rcases hn b h with h1 | h1; exact hb h1; omega, Nat.lt_of_lt_of_le hl ho.size, fun j z hj => ho.cell (hz j z hj) hb⟩⟩
theorem IntsN.weak {N : Nat → Prop} {w : World} {a : Option Addr} {c : Nat} {zs : List Int} (h : IntsN N w a c zs) : IntsW w a c zs := by
  obtain ⟨hc, h | ⟨b, o, ha, hb, hl, hz⟩⟩ := h
  · exact ⟨hc, .inl h⟩
  · exact ⟨hc, .inr ⟨b, o, ha, hz⟩⟩
theorem IntsW.far {N : Nat → Prop} {w0 w : World} {a : Option Addr} {c : Nat} {zs : List Int} (h : IntsW w0 a c zs) (hg : w0.grownBy w none) (hn : ∀ k, N k → w0.heap.size ≤ k) : IntsN N w a c zs := by
  obtain ⟨hc, h | ⟨b, o, ha, hz⟩⟩ := h
  · exact ⟨hc, .inl h⟩
  · cases zs with
    | nil => exact ⟨hc, .inl rfl⟩
    | cons x l =>
      have h0 := hz 0 x rfl
      have hl : b < w0.heap.size := lies_lt h0
      exact ⟨hc, .inr ⟨b, o, ha, fun h => by have := hn b h; omega, Nat.lt_of_lt_of_le hl hg.size, fun j z hj => hg.cell (hz j z hj) (by simp)⟩⟩
structure GS (p q : Nat) (N : Nat → Prop) (w : World) (gs : List Gt) (hi : Int) : Prop where
  gx : GX p N w gs hi
  q0 : w.cell? ⟨q, 0, none⟩ = some (.pointer (some ⟨p, 0, none⟩))
  nq : ¬ N q
  low : ∀ k, N k → k < w.heap.size
def Goes (N : Nat → Prop) (w : World) (N' : Nat → Prop) (w' : World) : Prop := Off N w w' ∧ ∀ k, N' k → N k ∨ w.heap.size ≤ k
theorem Goes.refl (N : Nat → Prop) (w : World) : Goes N w N w := ⟨Off.refl N w, fun _ h => .inl h⟩
theorem Goes.trans {N N1 N2 : Nat → Prop} {w w1 w2 : World} (h : Goes N w N1 w1) (h2 : Goes N1 w1 N2 w2) : Goes N w N2 w2 :=
  ⟨h.1.trans h2.1 (fun k hk h1 => (h.2 k h1).resolve_right (by omega)), fun k hk => by
    rcases h2.2 k hk with h1 | h1
    · exact h.2 k h1
    · have := h.1.size; exact .inr (by omega)⟩
theorem Goes.grown {N : Nat → Prop} {w w' : World} (hg : w.grownBy w' none) : Goes N w N w' := ⟨Off.of hg (fun k e => by cases e), fun _ h => .inl h⟩
theorem IntsN.goes {N N' : Nat → Prop} {w w' : World} {a : Option Addr} {c : Nat} {zs : List Int} (h : IntsN N w a c zs) (hg : Goes N w N' w') : IntsN N' w' a c zs := h.off hg.1 hg.2
theorem GS.step {p q : Nat} {N N' : Nat → Prop} {w w' : World} {gs gs' : List Gt} {hi hi' : Int} (h : GS p q N w gs hi) (hx : GX p N' w' gs' hi') (hg : Goes N w N' w') (hl : ∀ k, N' k → k < w'.heap.size) : GS p q N' w' gs' hi' :=
  ⟨hx, hg.1.cell h.q0 h.nq, fun e => by rcases hg.2 q e with h1 | h1; exact h.nq h1; have : q < w.heap.size := lies_lt h.q0; omega, hl⟩
theorem GS.grown {p q : Nat} {N : Nat → Prop} {w w' : World} {gs : List Gt} {hi : Int} (h : GS p q N w gs hi) (hg : w.grownBy w' none) : GS p q N w' gs hi :=
  h.step (h.gx.grown hg) (Goes.grown hg) (fun k hk => Nat.lt_of_lt_of_le (h.low k hk) hg.size)
structure AddS (p q : Nat) (N0 : Nat → Prop) (w0 : World) (N : Nat → Prop) (w : World) (gs : List Gt) (hi : Int) : Prop where
  gs : GS p q N w gs hi
  go : Goes N0 w0 N w
theorem AddS.step {p q : Nat} {N0 : Nat → Prop} {w0 : World} {N N' : Nat → Prop} {w w' : World} {gs gs' : List Gt} {hi hi' : Int} (h : AddS p q N0 w0 N w gs hi) (hx : GX p N' w' gs' hi') (ho : Off N w w') (hn : ∀ k, N' k → N k ∨ w.heap.size ≤ k) (hl : ∀ k, N' k → k < w'.heap.size) : AddS p q N0 w0 N' w' gs' hi' :=
  ⟨h.gs.step hx ⟨ho, hn⟩ hl, h.go.trans ⟨ho, hn⟩⟩
theorem GS.p_lt {p q : Nat} {N : Nat → Prop} {w : World} {gs : List Gt} {hi : Int} (h : GS p q N w gs hi) : p < w.heap.size := by
  obtain ⟨_, _, _, _, _, g, _⟩ := h.gx
  exact lies_lt g.c0
theorem GS.far {p q : Nat} {N : Nat → Prop} {w w' : World} {gs : List Gt} {hi : Int} {r : Option Nat} (h : GS p q N w gs hi) (hg : w.grownBy w' r) (hr : ∀ x, r = some x → p ≤ x ∧ q ≠ x ∧ ¬ N x) : GS p q N w' gs hi :=
  ⟨h.gx.far hg (fun x e => ⟨(hr x e).1, (hr x e).2.2⟩), hg.cell h.q0 (fun e => (hr q e.symm).2.1 rfl), h.nq, fun k hk => Nat.lt_of_lt_of_le (h.low k hk) hg.size⟩
theorem gand_c (gs : List Gt) (a b : Int) (p : Nat) (g1 : List Gt) (t : Int) (e : andC gs a b = (g1, t)) (hG : Good gs) (hl : gs.length ≤ 990) (M : Nat → Prop) (w : World) (hi : Int) (h : GX p M w gs hi) :
    Calls Try.prog 81 #[.pointer (some ⟨p, 0, none⟩), .int .i64 a, .int .i64 b] w fun e w' => e = .returned (.int .i64 t) ∧ ∃ hi', GX p (fun k => M k ∨ w.heap.size ≤ k) w' g1 hi' ∧ Off M w w' := by
  have h1 := gand_calls gs a b p M w hi h hG hl
  rw [e] at h1
  exact h1.mono (fun e w' hh => ⟨hh.1, _, hh.2.1, hh.2.2⟩)
theorem gor_c (gs : List Gt) (a b : Int) (p : Nat) (g1 : List Gt) (t : Int) (e : orC gs a b = (g1, t)) (hG : Good gs) (hl : gs.length ≤ 990) (ha : a ≤ 9223372036854775807) (hb : b ≤ 9223372036854775807) (M : Nat → Prop) (w : World) (hi : Int) (h : GX p M w gs hi) :
    Calls Try.prog 75 #[.pointer (some ⟨p, 0, none⟩), .int .i64 a, .int .i64 b] w fun e w' => e = .returned (.int .i64 t) ∧ ∃ hi', GX p (fun k => M k ∨ w.heap.size ≤ k) w' g1 hi' ∧ Off M w w' := by
  have h1 := gor_calls gs a b p M w hi h hG hl ha hb
  rw [e] at h1
  exact h1.mono (fun e w' hh => ⟨hh.1, _, hh.2.1, hh.2.2⟩)
end Go.Proofs.Ythdhmflodiincaa

namespace Go.Proofs.Ythdhmflodiincaa
set_option maxRecDepth 100000
open Go.RowKit Go.Maps

theorem newalg_calls (gs : List Gt) (n : Int) (a : Option Addr) (c : Nat) (w : World) (h : GatesW w a c gs) :
    Calls Try.prog 85 #[.agg #[.slice a gs.length c], .int .i64 n] w fun e w' => ∃ s q p, e = .returned (.pointer (some ⟨s, 0, none⟩)) ∧ w.heap.size ≤ p ∧ w.heap.size ≤ q ∧ w.heap.size ≤ s ∧ p ≠ q ∧ p ≠ s ∧ q ≠ s ∧ w'.cell? ⟨s, 0, none⟩ = some (.pointer (some ⟨q, 0, none⟩)) ∧ w'.cell? ⟨s, 1, none⟩ = some (.int .i64 n) ∧ w'.cell? ⟨q, 0, none⟩ = some (.pointer (some ⟨p, 0, none⟩)) ∧ GX p (fun k => k = p) w' gs 0 ∧ w.grownBy w' none := by
  have HF := Lib.hid (fun (U : World) (hU : GatesW U a c gs) => newb_calls gs a c U hU)
  have HH := Lib.hid h
  clear h
  go_enter Try.func85, Try.ntmps85
  go_wp2_with fail
  have hg1 := World.grownBy_alloc w (.cells #[.slice a gs.length c] 30) none
  obtain ⟨W, hW⟩ : ∃ z, w.alloc (.cells #[.slice a gs.length c] 30) = z := ⟨_, rfl⟩
  rw [hW] at hg1 ⊢
  clear hW
  have HG1 := Lib.hid hg1
  refine (HF.out W (HH.out.grown hg1)).mono ?_
  rintro e w2 ⟨q, p, rfl, hp, hq, hpq, hcell, hgx, hg2⟩
  have HP := Lib.hid (And.intro hp (And.intro hq (And.intro hpq (And.intro hcell hgx))))
  have HG2 := Lib.hid (World.grownBy.trans hg1 hg2)
  clear hg1 hg2 hp hq hpq hcell hgx
  go_wp2_with fail
  go_ret
  have hb := one_cells w2 (.pointer (some ⟨q, 0, none⟩)) (.int .i64 n) 97
  have hga := World.grownBy_alloc w2 (.cells #[.pointer (some ⟨q, 0, none⟩), .int .i64 n] 97) none
  have hql : q < w2.heap.size := lies_lt HP.out.2.2.2.1
  have hpl : p < w2.heap.size := by obtain ⟨o, va, vc, mb, vis, g1, _, _⟩ := HP.out.2.2.2.2; exact lies_lt g1.core.c0
  have h1 := HG1.out.size
  exact ⟨w2.heap.size, q, p, rfl, Nat.le_trans h1 HP.out.1, Nat.le_trans h1 HP.out.2.1, HG2.out.size, HP.out.2.2.1, by omega, by omega, hb.2.1, hb.2.2.1, hga.cell HP.out.2.2.2.1 (by simp), HP.out.2.2.2.2.grown hga, World.grownBy.trans HG2.out hga⟩
end Go.Proofs.Ythdhmflodiincaa

namespace Go.Proofs.Ythdhmflodiincaa
set_option maxRecDepth 100000
open Go.RowKit Go.Maps

theorem cells_news {w : World} {ad : Addr} {c : Nat} {news : List Cl} (hi : CellsW w (some ad) c news) : ∀ j u, (clCells news)[j]? = some u → w.cell? (ad.add j) = some u := by
  intro j u hj
  have hlt : j < news.length * 2 := by rw [← clCells_len]; exact (List.getElem?_eq_some_iff.1 hj).1
  obtain ⟨g, hg⟩ : ∃ g, news[j / 2]? = some g := ⟨_, List.getElem?_eq_getElem (by omega)⟩
  obtain ⟨b, o, e, h0, h1⟩ := hi.at hg
  cases e
  have hadd : (⟨b, o, none⟩ : Addr).add j = ⟨b, o + j, none⟩ := by unfold Addr.add; split <;> simp_all
  obtain ⟨e0, e1⟩ := clCells_at hg
  rw [hadd]
  rcases (show j % 2 = 0 ∨ j % 2 = 1 by omega) with h | h
  · rw [show j / 2 * 2 = j by omega] at e0 h0
    rw [e0] at hj; cases hj; exact h0
  · rw [show j / 2 * 2 + 1 = j by omega] at e1
    rw [e1] at hj; cases hj
    rw [show o + j = o + j / 2 * 2 + 1 by omega]; exact h1
theorem cells_oneCell {news : List Cl} : ∀ u ∈ clCells news, u.oneCell' = true := by
  intro u hu
  obtain ⟨g, _, hg⟩ := List.mem_flatMap.1 hu
  simp at hg
  rcases hg with rfl | rfl <;> rfl
theorem run_append_nilC {w : World} {base n : Nat} {v : Value} {xs : List Value} (hown : w.ownsRow base 71 2 v n xs) (ty : TypeId) (c : Nat) : (Builtin.append_ #[24, 24] ty #[v, .slice none 0 c]).run Try.prog w = .ok v w := by
  obtain ⟨i0, hi, hz0, hz1, hz2⟩ := info_parts infoCl
  rcases hown.2 with ⟨rfl, rfl⟩ | ⟨g, cap, cur, rfl, _, _, hnc, _⟩
  · simp [Builtin.append_, run_underlying Try.underlying24, sizeOf, typeInfo, hi, Builtin.lenOf, Builtin.firstCells]
  · simp [Builtin.append_, run_underlying Try.underlying24, sizeOf, typeInfo, hi, Builtin.lenOf, Builtin.firstCells, hnc, storeCells]
theorem run_append_cells (base : Nat) (ty : TypeId) {v : Value} {n : Nat} {l : List Cl} {w : World} (hown : w.ownsRow base 71 2 v n (clCells l)) {xa : Option Addr} {m c : Nat} {news : List Cl} (hm : news.length = m) (hi : CellsW w xa c news)
    (h63 : n + m ≤ 100000) (hbase : base ≤ w.heap.size) :
    ∃ v' w', (Builtin.append_ #[24, 24] ty #[v, .slice xa m c]).run Try.prog w = .ok v' w' ∧ w'.ownsRow base 71 2 v' (n + m) (clCells (l ++ news)) ∧ w.grownBy w' v.ownBlock := by
  obtain ⟨i0, hi0, hz0, hz1, hz2⟩ := info_parts infoCl
  cases xa with
  | none =>
    obtain rfl : news = [] := by
      rcases hi.2 with h0 | ⟨_, _, e, _⟩
      · exact h0
      · cases e
    obtain rfl : 0 = m := hm
    exact ⟨v, w, run_append_nilC hown ty c, by rw [List.append_nil]; exact hown, grown_refl _ _⟩
  | some ad =>
    obtain ⟨v', w', hr, h2, h3, _, h5⟩ := run_append_own_at (P := Try.prog) w base 24 ty 71 i0 (.agg #[.int .i64 0, .int .i64 0]) 2 16 Try.underlying24 hi0 hz0 hz1 hz2 rfl (by decide) v n (clCells l) hown ad m c (clCells news) (by rw [clCells_len, hm]) (cells_news hi) cells_oneCell (by unfold maxLen; omega) (by omega) hbase
    exact ⟨v', w', hr, by rw [clCells_app]; exact h2, h3⟩
theorem append_cells {ops : Array Oper} {rest : List Oper} {o : Oper} {a : Act} {Q : Exit → Act → World → Prop} {w : World} (hgd : o.guard = none) (s x : Operand)
    (ho : o.op = .call { callee := .builtin .append, args := #[s, x], argTypes := #[24, 24] })
    (base : Nat) (v : Value) (n : Nat) (l : List Cl) (hs : a.eval s = v) (hown : w.ownsRow base 71 2 v n (clCells l))
    (xa : Option Addr) (m c : Nat) (news : List Cl) (hx : a.eval x = .slice xa m c) (hm : news.length = m) (hi : CellsW w xa c news)
    (h63 : n + m ≤ 100000) (hbase : base ≤ w.heap.size)
    (h : ∀ v' w', w'.ownsRow base 71 2 v' (n + m) (clCells (l ++ news)) → w.grownBy w' v.ownBlock → wpList Try.prog ops Q rest (a.put o.dst v') w') : wpList Try.prog ops Q (o :: rest) a w := by
  refine wpList_plain hgd fun K' hK' => ?_
  obtain ⟨v', w', hr, h2, h3⟩ := run_append_cells base o.type hown hm hi h63 hbase
  unfold Oper.wp execOp
  simp only [ho, resolve, invoke, builtin, Sem.run_bind, Sem.run_pure, Result.andThen_ok, List.map_toArray, List.map_cons, List.map_nil, hs, hx, hr]
  exact hK' _ _ (h v' w' h2 h3)
theorem cells_span {w : World} {B : Nat} {v : Value} {l : List Cl} (h : w.ownsRow B 71 2 v l.length (clCells l)) : ∃ a c, v = .slice a l.length c ∧ Span B w.heap.size w (fun W => CellsW W a c l) := by
  have hc := @World.ownsRow.cells w B 71 2 v l.length _ h
  rcases h.2 with ⟨hv, h0⟩ | ⟨g, cap, cur, rfl, hb, hg, hnc, hcm, _⟩
  · have hl : l = [] := List.eq_nil_of_length_eq_zero h0
    subst hl
    exact ⟨none, 0, hv, Nat.le_refl _, fun W _ => ⟨Nat.le_refl _, .inl rfl⟩⟩
  · have hlt := (Array.getElem?_eq_some_iff.1 hg).1
    refine ⟨_, _, rfl, Nat.le_refl _, fun W hW => ⟨hnc, .inr ⟨g, 0, rfl, fun j x hj => ?_⟩⟩⟩
    have h1 := hc (g := g) rfl (j * 2) (.int .i64 x.1) (clCells_at hj).1
    have h2 := hc (g := g) rfl (j * 2 + 1) (.int .i64 x.2) (clCells_at hj).2
    rw [add_at] at h1 h2
    refine ⟨?_, ?_⟩
    · rw [Nat.zero_add, World.cell?_of_block (hW g hb hlt)]; exact h1
    · rw [Nat.zero_add, World.cell?_of_block (hW g hb hlt)]; exact h2
end Go.Proofs.Ythdhmflodiincaa

namespace Go.Proofs.Ythdhmflodiincaa
set_option maxRecDepth 100000
open Go.RowKit Go.Maps

theorem pow_le {n k : Nat} (hn : n ≤ 1000) (hk : k ≤ 6) : n ^ k ≤ 1000000000000000000 :=
  Nat.le_trans (Nat.pow_le_pow_left hn k) (Nat.le_trans (Nat.pow_le_pow_right (by omega) hk) (by decide))
theorem power_calls (s n k : Nat) (w : World) (hs : w.cell? ⟨s, 1, none⟩ = some (.int .i64 (n : Int))) (hn : n ≤ 1000) (hk : k ≤ 6) :
    Calls Try.prog 86 #[.pointer (some ⟨s, 0, none⟩), .int .i64 (k : Int)] w fun e w' => e = .returned (.int .i64 ((n ^ k : Nat) : Int)) ∧ w' = w := by
  go_enter Try.func86, Try.ntmps86
  go_wp2_with fail
  go_loopg [5, 7] k (fun gk s5 s7 wr => ∃ (j p : Nat), s5 = .int .i64 (p : Int) ∧ s7 = .int .i64 (j : Int) ∧ gk = k - j ∧ j ≤ k ∧ p = n ^ j ∧ wr = w)
  case atStart => exact ⟨0, 1, rfl, rfl, rfl, Nat.zero_le _, rfl, rfl⟩
  case round =>
    obtain ⟨j, p, rfl, rfl, hgk, hj, hp, rfl⟩ := hrel
    have HI := Lib.hid hgk; clear hgk
    have HP := Lib.hid hp
    by_cases hjk : j < k
    · have f1 : decide (j < k) = true := decide_eq_true hjk
      have f2 : decide ((j : Int) < (k : Int)) = true := decide_eq_true (by omega)
      have hk1 : IntKind.i64.wrap ((j : Int) + 1) = ((j + 1 : Nat) : Int) := by rw [IntWalk.i64_in _ (by omega)]; omega
      obtain ⟨q, hq⟩ : ∃ q, p * n = q := ⟨_, rfl⟩
      have hq2 : q = n ^ (j + 1) := by rw [← hq, hp, Nat.pow_succ]
      have hb := pow_le hn (show j + 1 ≤ 6 by omega)
      rw [← hq2] at hb
      have hm : IntKind.i64.wrap ((p : Int) * (n : Int)) = (q : Int) := by rw [← Int.natCast_mul, hq]; exact IntWalk.i64_in _ (by omega)
      have HQ := Lib.hid hq2
      clear hq hq2 hb hp
      go_wp2_with fail
      go_roundg (k - (j + 1))
      case measure => rw [HI.out]; omega
      case rel => exact ⟨j + 1, q, rfl, rfl, rfl, by omega, HQ.out, rfl⟩
    · have f1 : decide (j < k) = false := decide_eq_false hjk
      have f2 : decide ((j : Int) < (k : Int)) = false := decide_eq_false (by omega)
      have e : j = k := by omega
      have HF := Lib.hid (show n ^ k = p by rw [hp, e])
      clear hjk hp e
      go_wp2_with fail
      go_ret
      exact ⟨by rw [HF.out]; rfl, rfl⟩
end Go.Proofs.Ythdhmflodiincaa

namespace Go.Proofs.Ythdhmflodiincaa
open Go.RowKit Go.Shelf

def loopy : Obj → Bool
  | .loop _ => true
  | .deferred _ => true
  | _ => false
theorem loopy_cells {o : Obj} (h : loopy o = true) : o.isCells = false := by cases o <;> simp [loopy] at h <;> rfl
def Quiet (B : Nat) (A A' : World) : Prop := ∃ row, A.grownBy A' row ∧ ∀ r, row = some r → B ≤ r ∧ ∃ o : Obj, A.heap[r]? = some o ∧ loopy o = true
theorem Quiet.less {B B' : Nat} {A A' : World} (h : Quiet B A A') (hB : B' ≤ B) : Quiet B' A A' := by
  obtain ⟨row, hg, hr⟩ := h
  exact ⟨row, hg, fun r e => ⟨Nat.le_trans hB (hr r e).1, (hr r e).2⟩⟩
theorem Quiet.of_none {B : Nat} {A A' : World} (h : A.grownBy A' none) : Quiet B A A' := ⟨none, h, fun _ e => by cases e⟩
theorem Quiet.put {B : Nat} {A : World} {r : Nat} {o : Obj} (o' : Obj) (hB : B ≤ r) (h : A.heap[r]? = some o) (ho : loopy o = true) : Quiet B A (A.putObj r o') :=
  ⟨some r, grownBy_putObj' A r o', fun k e => by cases e; exact ⟨hB, o, h, ho⟩⟩
def Saved (Safe : World → Nat → Prop) (W W' : World) : Prop := ∀ b, Safe W b → W'.heap[b]? = W.heap[b]? ∧ Safe W' b

theorem Quiet.cell {B : Nat} {W W' : World} (h : Quiet B W W') {a : Addr} {v : Value} (hc : W.cell? a = some v) : W'.cell? a = some v := by
  obtain ⟨row, hg, hr⟩ := h
  exact cell_kept hc hg (fun r e => by obtain ⟨_, o, h1, h2⟩ := hr r e; exact ⟨o, h1, loopy_cells h2⟩)
theorem Quiet.size {B : Nat} {W W' : World} (h : Quiet B W W') : W.heap.size ≤ W'.heap.size := by
  obtain ⟨row, hg, _⟩ := h
  exact hg.size

structure AbideG {α : Type} (B : Nat) (J : List α → World → Prop) (Safe : World → Nat → Prop) : Prop where
  keep : ∀ s A A', J s A → Quiet B A A' → J s A'
  safe : ∀ s A A' b, J s A → Quiet B A A' → Safe A b → Safe A' b
  fresh : ∀ s A A' b, J s A → Quiet B A A' → A.heap.size ≤ b → b < A'.heap.size → Safe A' b
theorem AbideG.less {α : Type} {B B' : Nat} {J : List α → World → Prop} {Safe : World → Nat → Prop} (h : AbideG B J Safe) (hB : B ≤ B') : AbideG B' J Safe :=
  ⟨fun s A A' hs hq => h.keep s A A' hs (hq.less hB), fun s A A' b hs hq => h.safe s A A' b hs (hq.less hB), fun s A A' b hs hq => h.fresh s A A' b hs (hq.less hB)⟩
def YesG {α : Type} (vals : α → Array Value) (F : Fence) (m : Nat) (P : Program) (l : Nat) (xs : List α) (J : List α → World → Prop) (Safe : World → Nat → Prop) : Prop :=
  ∀ pre x W, J pre W → pre ++ [x] <+: xs → YieldAt F m P l (vals x) W fun e W' => e = .returned (.bool true) ∧ J (pre ++ [x]) W' ∧ Saved Safe W W'
def GivesG {α : Type} (vals : α → Array Value) (F : Fence) (P : Program) (gf : Nat) (lb : Array Value) (caps : Nat → Prop) (xs : List α) (w : World) : Prop :=
  ∀ (n l : Nat) (J : List α → World → Prop) (Safe : World → Nat → Prop), (∀ b, caps b → Safe w b) → AbideG w.heap.size J Safe → YesG vals F (n - 1) P l xs J Safe → J [] w →
    CallsIn F n P gf (#[.func (.yield l) #[] #[]] ++ lb) w fun e W' => (∃ v, e = .returned v) ∧ J xs W'
def yesPostG {α : Type} (J : List α → World → Prop) (Safe : World → Nat → Prop) (s : List α) (W : World) : Exit → Act → World → Prop
  | .normal, _, W' => J s W' ∧ Saved Safe W W'
  | _, _, _ => False
variable {F : Fence} {n : Nat} {P : Program}
def Low (B0 : Nat) (Safe : World → Nat → Prop) (w W : World) : Prop := ∀ b, b < B0 → W.heap[b]? = w.heap[b]? ∧ Safe W b
theorem Low.saved {B0 : Nat} {Safe : World → Nat → Prop} {w W W' : World} (h : Low B0 Safe w W) (hs : Saved Safe W W') : Low B0 Safe w W' := fun b hb => by
  obtain ⟨h1, h2⟩ := h b hb
  obtain ⟨h3, h4⟩ := hs b h2
  exact ⟨h3.trans h1, h4⟩
theorem Low.grown {α : Type} {B0 Bq : Nat} {J : List α → World → Prop} {Safe : World → Nat → Prop} {w W W' : World} {s : List α} (h : Low B0 Safe w W) (hJ : AbideG Bq J Safe) (hj : J s W) (hg : W.grownBy W' none) (hB : B0 ≤ W.heap.size) : Low B0 Safe w W' := fun b hb => by
  obtain ⟨h1, h2⟩ := h b hb
  exact ⟨(hg.block b (Nat.lt_of_lt_of_le hb hB) (by simp)).trans h1, hJ.safe s W W' b hj (.of_none hg) h2⟩
theorem Low.size {B0 : Nat} {Safe : World → Nat → Prop} {w W : World} (h : Low B0 Safe w W) (hB : B0 ≤ w.heap.size) : B0 ≤ W.heap.size := by
  rcases Nat.eq_zero_or_pos B0 with h0 | h0
  · omega
  · have h1 := (h (B0 - 1) (by omega)).1
    rw [Array.getElem?_eq_getElem (show B0 - 1 < w.heap.size by omega)] at h1
    have := (Array.getElem?_eq_some_iff.1 h1).1
    omega

end Go.Proofs.Ythdhmflodiincaa
