/- Plain: joins and products. -/
import Derived.Test.YtkoigonbncpbaaaB7s
import Derived.Test.YtkoigonbncpbaaaAR
namespace Go.Proofs.Ytkoigonbncpbaaa
open Go.RowKit

theorem VR.joinK {n k : Nat} {A B : List Int} (hA : VR n k A) (hB : VR n 2 B) (hn : 1 ≤ n) (hk : 1 ≤ k) : VR n k (uniq (joinP n (n ^ (2 - 1)) A B)) := by
  have h := VR.join hA hB hn hk (by omega)
  rw [show k + 2 - 2 = k by omega] at h
  exact h
theorem VR.joinJ {n j : Nat} {A B : List Int} (hA : VR n 2 A) (hB : VR n j B) (hn : 1 ≤ n) (hj : 1 ≤ j) : VR n j (uniq (joinP n (n ^ (j - 1)) A B)) := by
  have h := VR.join hA hB hn (by omega) hj
  rw [show 2 + j - 2 = j by omega] at h
  exact h
/-- Two relations of the same arity, told apart by first part and last coordinate's row. -/
theorem vrp_ext {n k p q : Nat} {A B : List Int} (hq : 0 < q) (hpq : n ^ k = p * q) (hA : VR n k A) (hB : VR n k B) (h : ∀ u v, u < p → v < q → (Hs A (u * q + v) ↔ Hs B (u * q + v))) : A = B := vr_ext hA hB fun z hz => by
  rw [hpq] at hz
  obtain ⟨u, v, hu, hv, rfl⟩ := pair_of hq hz
  exact h u v hu hv
theorem hs_prod {n k j : Nat} {A B : List Int} (hA : VR n k A) (hB : VR n j B) {u v : Nat} (hv : v < n ^ j) : Hs (prodL (n ^ j) A B) (u * n ^ j + v) ↔ Hs A u ∧ Hs B v := by
  rw [Hs, mem_prodL]
  constructor
  · rintro ⟨x, hx, y, hy, e⟩
    obtain ⟨a, rfl, _⟩ := hA.nat hx
    obtain ⟨b, rfl, hb⟩ := hB.nat hy
    have e' : u * n ^ j + v = a * n ^ j + b := by exact_mod_cast e
    obtain ⟨rfl, rfl⟩ := pair_inj hv hb e'
    exact ⟨hx, hy⟩
  · rintro ⟨h1, h2⟩
    exact ⟨_, h1, _, h2, by exact_mod_cast rfl⟩

section
variable {n k j : Nat} {A A' B C : List Int}
theorem pow_last (hk : 1 ≤ k) : n ^ k = n ^ (k - 1) * n := by rw [← Nat.pow_succ]; congr 1; omega
theorem pow_first (hk : 1 ≤ k) : n ^ k = n * n ^ (k - 1) := by rw [← Nat.pow_succ']; congr 1; omega
theorem jn_assoc (hA : VR n k A) (hB : VR n 2 B) (hC : VR n j C) (hn : 1 ≤ n) (hk : 1 ≤ k) (hj : 1 ≤ j) :
    uniq (joinP n (n ^ (j - 1)) (uniq (joinP n (n ^ (2 - 1)) A B)) C) = uniq (joinP n (n ^ (j - 1)) A (uniq (joinP n (n ^ (j - 1)) B C))) :=
  vrp_ext (n := n) (k := k + j - 2) (p := n ^ (k - 1)) (q := n ^ (j - 1)) (Nat.pow_pos (by omega)) (by rw [← Nat.pow_add]; congr 1; omega) (VR.join (hA.joinK hB hn hk) hC hn hk hj) (VR.join hA (hB.joinJ hC hn hj) hn hk hj) fun u v _ hv => by
    rw [hs_join (hA.joinK hB hn hk) hC hn hk hj hv, hs_join hA (hB.joinJ hC hn hj) hn hk hj hv]
    constructor
    · rintro ⟨m, hm, h1, h2⟩
      have h3 := (hs_join hA hB hn hk (by omega) (u := u) (v := m) (by simpa using hm)).1 (by simpa using h1)
      obtain ⟨m', hm', h4, h5⟩ := h3
      exact ⟨m', hm', h4, (hs_join hB hC hn (by omega) hj hv).2 ⟨m, hm, by simpa using h5, h2⟩⟩
    · rintro ⟨m', hm', h1, h2⟩
      obtain ⟨m, hm, h4, h5⟩ := (hs_join hB hC hn (by omega) hj hv).1 h2
      refine ⟨m, hm, ?_, h5⟩
      have h6 := (hs_join hA hB hn hk (by omega) (u := u) (v := m) (by simpa using hm)).2 ⟨m', hm', h1, by simpa using h4⟩
      simpa using h6
theorem jn_idr (hA : VR n k A) (hn : 1 ≤ n) (hk : 1 ≤ k) : uniq (joinP n (n ^ (2 - 1)) A (idenL n)) = A :=
  vrp_ext (p := n ^ (k - 1)) (q := n) (by omega) (pow_last hk) (hA.joinK (VR.iden n) hn hk) hA fun u v _ hv => by
    have h := hs_join hA (VR.iden n) hn hk (by omega) (u := u) (v := v) (by simpa using hv)
    simp only [show n ^ (2 - 1) = n by simp] at h ⊢
    rw [h]
    constructor
    · rintro ⟨m, hm, h1, h2⟩
      obtain rfl := (hs_iden hm hv).1 h2
      exact h1
    · intro h1
      exact ⟨v, hv, h1, (hs_iden hv hv).2 rfl⟩
theorem jn_idl (hA : VR n k A) (hn : 1 ≤ n) (hk : 1 ≤ k) : uniq (joinP n (n ^ (k - 1)) (idenL n) A) = A :=
  vrp_ext (p := n) (Nat.pow_pos (by omega)) (pow_first hk) ((VR.iden n).joinJ hA hn hk) hA fun u v hu hv => by
    rw [hs_join (VR.iden n) hA hn (by omega) hk hv]
    constructor
    · rintro ⟨m, hm, h1, h2⟩
      obtain rfl := (hs_iden hu hm).1 h1
      exact h2
    · intro h1
      exact ⟨u, hu, (hs_iden hu hu).2 rfl, h1⟩
theorem jn_dl (hA : VR n k A) (hA' : VR n k A') (hB : VR n 2 B) (hn : 1 ≤ n) (hk : 1 ≤ k) :
    uniq (joinP n (n ^ (2 - 1)) (unionL A A') B) = unionL (uniq (joinP n (n ^ (2 - 1)) A B)) (uniq (joinP n (n ^ (2 - 1)) A' B)) :=
  vrp_ext (p := n ^ (k - 1)) (q := n ^ (2 - 1)) (Nat.pow_pos (by omega)) (by rw [← Nat.pow_add]; congr 1; omega) ((hA.union hA').joinK hB hn hk) ((hA.joinK hB hn hk).union (hA'.joinK hB hn hk)) fun u v _ hv => by
    rw [hs_union (hA.joinK hB hn hk) (hA'.joinK hB hn hk), hs_join (hA.union hA') hB hn hk (by omega) hv, hs_join hA hB hn hk (by omega) hv, hs_join hA' hB hn hk (by omega) hv]
    constructor
    · rintro ⟨m, hm, h1, h2⟩
      rcases (hs_union hA hA').1 h1 with h1 | h1
      · exact .inl ⟨m, hm, h1, h2⟩
      · exact .inr ⟨m, hm, h1, h2⟩
    · rintro (⟨m, hm, h1, h2⟩ | ⟨m, hm, h1, h2⟩)
      · exact ⟨m, hm, (hs_union hA hA').2 (.inl h1), h2⟩
      · exact ⟨m, hm, (hs_union hA hA').2 (.inr h1), h2⟩
theorem jn_dr (hA : VR n k A) (hA' : VR n k A') (hB : VR n 2 B) (hn : 1 ≤ n) (hk : 1 ≤ k) :
    uniq (joinP n (n ^ (k - 1)) B (unionL A A')) = unionL (uniq (joinP n (n ^ (k - 1)) B A)) (uniq (joinP n (n ^ (k - 1)) B A')) :=
  vrp_ext (p := n) (q := n ^ (k - 1)) (Nat.pow_pos (by omega)) (pow_first hk) (hB.joinJ (hA.union hA') hn hk) ((hB.joinJ hA hn hk).union (hB.joinJ hA' hn hk)) fun u v _ hv => by
    rw [hs_union (hB.joinJ hA hn hk) (hB.joinJ hA' hn hk), hs_join hB (hA.union hA') hn (by omega) hk hv, hs_join hB hA hn (by omega) hk hv, hs_join hB hA' hn (by omega) hk hv]
    constructor
    · rintro ⟨m, hm, h1, h2⟩
      rcases (hs_union hA hA').1 h2 with h2 | h2
      · exact .inl ⟨m, hm, h1, h2⟩
      · exact .inr ⟨m, hm, h1, h2⟩
    · rintro (⟨m, hm, h1, h2⟩ | ⟨m, hm, h1, h2⟩)
      · exact ⟨m, hm, h1, (hs_union hA hA').2 (.inl h2)⟩
      · exact ⟨m, hm, h1, (hs_union hA hA').2 (.inr h2)⟩
theorem jn_prod (hA : VR n k A) (hC : VR n 1 C) (hn : 1 ≤ n) (hc : C ≠ []) : uniq (joinP n (n ^ (1 - 1)) (prodL (n ^ 1) A C) C) = A := by
  have hV : VR n k (uniq (joinP n (n ^ (1 - 1)) (prodL (n ^ 1) A C) C)) := by
    have h := VR.join (VR.prod hA hC) hC hn (by omega) (by omega)
    rw [show k + 1 + 1 - 2 = k by omega] at h
    exact h
  refine vr_ext hV hA fun z _ => ?_
  have h := hs_join (VR.prod hA hC) hC hn (by omega) (by omega) (u := z) (v := 0) (by simp)
  rw [show z * n ^ (1 - 1) + 0 = z by simp] at h
  rw [h]
  constructor
  · rintro ⟨m, hm, h1, _⟩
    have h2 := (hs_prod hA hC (u := z) (v := m) (by simpa using hm)).1 (by simpa using h1)
    exact h2.1
  · intro h1
    obtain ⟨y, hy⟩ := List.exists_mem_of_ne_nil _ hc
    obtain ⟨m, rfl, hm⟩ := hC.nat hy
    have hm' : m < n := by simpa using hm
    refine ⟨m, hm', ?_, by simpa using hy⟩
    have h2 := (hs_prod hA hC (u := z) (v := m) hm).2 ⟨h1, hy⟩
    simpa using h2
end
theorem rvalidV {n k : Nat} {A : List Int} {la : Nat} (hA : VR n k A) (hn5 : n ≤ 5) (hk1 : 1 ≤ k) (hk3 : k ≤ 3) (h1 : A.length = la) :
    ∀ (U : World) (a : Option Addr) (c : Nat), IntsW U a c A → Calls Try.prog 18 #[.int .i64 (n : Int), .agg #[.int .i64 (k : Int), .slice a la c]] U fun e w' => e = .returned (.bool true) ∧ U.grownBy w' none := by
  intro U a c ha
  subst h1
  have h := tValid_calls (n : Int) (k : Int) A a c U ha (by have := hA.len hn5 hk3; omega)
  rw [hA.valid hn5 hk1 hk3] at h
  exact h
/-- What a relation that was made, or a fault, looks like. -/
def Made (w w' : World) (q l : Nat) (e : Int) (L : List Int) (ex : Ending) : Prop := ∃ x y, ex = .returned (.tuple #[.agg #[.int .i64 (q : Int), .slice x l y], .int .i64 e]) ∧ IntsW w' x y L ∧ w.grownBy w' none
/-- Both ways to join three relations say the same, fault or not. -/
theorem joins_same {n k j : Nat} {A B C AB BC : List Int} {la lc lab lbc : Nat} (hA : VR n k A) (hB : VR n 2 B) (hC : VR n j C) (hn1 : 1 ≤ n) (hn5 : n ≤ 5) (hk1 : 1 ≤ k) (hk3 : k ≤ 3) (hj1 : 1 ≤ j) (hj3 : j ≤ 3)
    (hab : uniq (joinP n (n ^ (2 - 1)) A B) = AB) (hbc : uniq (joinP n (n ^ (j - 1)) B C) = BC) (h1 : A.length = la) (h3 : C.length = lc) (h4 : AB.length = lab) (h5 : BC.length = lbc) :
    ∃ (q : Nat) (L : List Int) (l : Nat) (e : Int), q ≤ 3 ∧ VR n q L ∧ L.length = l ∧
      (∀ (U : World) (a : Option Addr) (c : Nat) (a' : Option Addr) (c' : Nat), IntsW U a c AB → IntsW U a' c' C → Calls Try.prog 15 #[.int .i64 (n : Int), .agg #[.int .i64 (k : Int), .slice a lab c], .agg #[.int .i64 (j : Int), .slice a' lc c']] U fun ex w' => Made U w' q l e L ex) ∧
      (∀ (U : World) (a : Option Addr) (c : Nat) (a' : Option Addr) (c' : Nat), IntsW U a c A → IntsW U a' c' BC → Calls Try.prog 15 #[.int .i64 (n : Int), .agg #[.int .i64 (k : Int), .slice a la c], .agg #[.int .i64 (j : Int), .slice a' lbc c']] U fun ex w' => Made U w' q l e L ex) := by
  by_cases h : 3 ≤ k + j ∧ k + j ≤ 5
  · have vAB : VR n k AB := by rw [← hab]; exact hA.joinK hB hn1 hk1
    have vBC : VR n j BC := by rw [← hbc]; exact hB.joinJ hC hn1 hj1
    refine ⟨k + j - 2, _, _, 0, by omega, VR.join vAB hC hn1 hk1 hj1, rfl, fun U a c a' c' ha ha' => ?_, fun U a c a' c' ha ha' => ?_⟩
    · exact joinV (k + j - 2) rfl vAB hC hn1 hn5 hk1 hk3 hj1 hj3 h.1 h.2 rfl h4 h3 rfl U a c a' c' ha ha'
    · refine joinV (k + j - 2) rfl hA vBC hn1 hn5 hk1 hk3 hj1 hj3 h.1 h.2 ?_ h1 h5 rfl U a c a' c' ha ha'
      rw [← hab, ← hbc]
      exact (jn_assoc hA hB hC hn1 hk1 hj1).symm
  · refine ⟨0, [], 0, 42, by omega, VR.nil n 0, rfl, fun U a c a' c' _ _ => ?_, fun U a c a' c' _ _ => ?_⟩
    · refine (joinOdd (n := n) (by omega) hk3 hj3 h4 h3 U a c a' c').mono ?_
      rintro ex w' ⟨rfl, g⟩
      exact ⟨none, 0, rfl, intsW_nil _ _ _, g⟩
    · refine (joinOdd (n := n) (by omega) hk3 hj3 h1 h5 U a c a' c').mono ?_
      rintro ex w' ⟨rfl, g⟩
      exact ⟨none, 0, rfl, intsW_nil _ _ _, g⟩
/-- A product, or its fault. -/
theorem prod_any {n k : Nat} {A C : List Int} {la lc : Nat} (hA : VR n k A) (hC : VR n 1 C) (hn5 : n ≤ 5) (hk3 : k ≤ 3) (h1 : A.length = la) (h3 : C.length = lc) :
    ∃ (q : Nat) (L : List Int) (l : Nat) (e : Int), q ≤ 3 ∧ VR n q L ∧ L.length = l ∧ (k ≤ 2 → q = k + 1 ∧ prodL (n ^ 1) A C = L ∧ e = 0) ∧ (¬ k ≤ 2 → e = 42) ∧
      (∀ (U : World) (a : Option Addr) (c : Nat) (a' : Option Addr) (c' : Nat), IntsW U a c A → IntsW U a' c' C → Calls Try.prog 13 #[.int .i64 (n : Int), .agg #[.int .i64 (k : Int), .slice a la c], .agg #[.int .i64 ((1 : Nat) : Int), .slice a' lc c']] U fun ex w' => Made U w' q l e L ex) := by
  by_cases h : k ≤ 2
  · exact ⟨k + 1, _, _, 0, by omega, VR.prod hA hC, rfl, fun _ => ⟨rfl, rfl, rfl⟩, fun h' => absurd h h', fun U a c a' c' ha ha' => prodV (k + 1) rfl hA hC hn5 (by omega) rfl h1 h3 rfl U a c a' c' ha ha'⟩
  · refine ⟨0, [], 0, 42, by omega, VR.nil n 0, rfl, fun h' => absurd h' h, fun _ => rfl, fun U a c a' c' _ _ => ?_⟩
    refine (prodOdd (n := n) (by omega) hk3 (by omega) h1 h3 U a c a' c').mono ?_
    rintro ex w' ⟨rfl, g⟩
    exact ⟨none, 0, rfl, intsW_nil _ _ _, g⟩
end Go.Proofs.Ytkoigonbncpbaaa
