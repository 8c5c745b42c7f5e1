/- The reference's answers over valid relations. -/
import Derived.Test.YtkoigonbncpbaaaS32
import Derived.Test.YtkoigonbncpbaaaM1
namespace Go.Proofs.Ytkoigonbncpbaaa
open Go.RowKit

theorem shares_inter {xs ys : List Int} (hx : Up xs) (hy : Up ys) : shares xs ys = interL xs ys :=
  up_ext (hx.filter _) (merge_up _ _ _ hx hy) fun z => by
    rw [mem_inter hx hy, shares, List.mem_filter]
    simp
theorem lacks_diff {xs ys : List Int} (hx : Up xs) (hy : Up ys) : lacks xs ys = diffL xs ys :=
  up_ext (hx.filter _) (merge_up _ _ _ hx hy) fun z => by
    rw [mem_diff hx hy, lacks, List.mem_filter]
    simp
theorem lacks_nil {xs ys : List Int} : lacks xs ys = [] ↔ ∀ z ∈ xs, z ∈ ys := by
  rw [lacks, List.filter_eq_nil_iff]
  simp
theorem runionV {n k : Nat} {A B C : List Int} {la lb lc : Nat} (p q : Int) (hA : VR n k A) (hB : VR n k B) (hn5 : n ≤ 5) (hk3 : k ≤ 3) (hC : unionL A B = C) (h1 : A.length = la) (h2 : B.length = lb) (h3 : C.length = lc) :
    ∀ (U : World) (a : Option Addr) (c : Nat) (a' : Option Addr) (c' : Nat), IntsW U a c A → IntsW U a' c' B → Calls Try.prog 28 #[.agg #[.int .i64 p, .slice a la c], .agg #[.int .i64 q, .slice a' lb c']] U fun e w' => ∃ x y, e = .returned (.agg #[.int .i64 p, .slice x lc y]) ∧ IntsW w' x y C ∧ U.grownBy w' none := by
  intro U a c a' c' ha ha'
  subst hC h1 h2 h3
  refine (rUnion_calls p q A B a a' c c' U ha ha' (by have := hA.len hn5 hk3; omega) (by have := hB.len hn5 hk3; omega) hA.up hB.up).mono ?_
  rintro e w' ⟨x, y, rfl, hs, g⟩
  exact ⟨x, y, rfl, hs.here, g⟩
theorem rinterV {n k : Nat} {A B C : List Int} {la lb lc : Nat} (p q : Int) (hA : VR n k A) (hB : VR n k B) (hn5 : n ≤ 5) (hk3 : k ≤ 3) (hC : interL A B = C) (h1 : A.length = la) (h2 : B.length = lb) (h3 : C.length = lc) :
    ∀ (U : World) (a : Option Addr) (c : Nat) (a' : Option Addr) (c' : Nat), IntsW U a c A → IntsW U a' c' B → Calls Try.prog 30 #[.agg #[.int .i64 p, .slice a la c], .agg #[.int .i64 q, .slice a' lb c']] U fun e w' => ∃ x y, e = .returned (.agg #[.int .i64 p, .slice x lc y]) ∧ IntsW w' x y C ∧ U.grownBy w' none := by
  intro U a c a' c' ha ha'
  have hS := shares_inter hA.up hB.up
  subst hC h1 h2 h3
  refine (rInter_calls p q A B a a' c c' U ha ha' (by have := hA.len hn5 hk3; omega) (by have := hB.len hn5 hk3; omega) hB.up).mono ?_
  rintro e w' ⟨x, y, rfl, hs, g⟩
  rw [hS] at hs ⊢
  exact ⟨x, y, rfl, hs.here, g⟩
theorem rdiffV {n k : Nat} {A B C : List Int} {la lb lc : Nat} (p q : Int) (hA : VR n k A) (hB : VR n k B) (hn5 : n ≤ 5) (hk3 : k ≤ 3) (hC : diffL A B = C) (h1 : A.length = la) (h2 : B.length = lb) (h3 : C.length = lc) :
    ∀ (U : World) (a : Option Addr) (c : Nat) (a' : Option Addr) (c' : Nat), IntsW U a c A → IntsW U a' c' B → Calls Try.prog 32 #[.agg #[.int .i64 p, .slice a la c], .agg #[.int .i64 q, .slice a' lb c']] U fun e w' => ∃ x y, e = .returned (.agg #[.int .i64 p, .slice x lc y]) ∧ IntsW w' x y C ∧ U.grownBy w' none := by
  intro U a c a' c' ha ha'
  have hS := lacks_diff hA.up hB.up
  subst hC h1 h2 h3
  refine (rDiff2_calls p q A B a a' c c' U ha ha' (by have := hA.len hn5 hk3; omega) (by have := hB.len hn5 hk3; omega) hB.up).mono ?_
  rintro e w' ⟨x, y, rfl, hs, g⟩
  rw [hS] at hs ⊢
  exact ⟨x, y, rfl, hs.here, g⟩
theorem rinV {n k : Nat} {A B : List Int} {la lb : Nat} {Q : Bool} (p q : Int) (hA : VR n k A) (hB : VR n k B) (hn5 : n ≤ 5) (hk3 : k ≤ 3) (hQ : decide (∀ z ∈ A, z ∈ B) = Q) (h1 : A.length = la) (h2 : B.length = lb) :
    ∀ (U : World) (a : Option Addr) (c : Nat) (a' : Option Addr) (c' : Nat), IntsW U a c A → IntsW U a' c' B → Calls Try.prog 36 #[.agg #[.int .i64 p, .slice a la c], .agg #[.int .i64 q, .slice a' lb c']] U fun e w' => e = .returned (.bool Q) ∧ U.grownBy w' none := by
  intro U a c a' c' ha ha'
  subst hQ h1 h2
  have h := rIn_calls p q A B a a' c c' U ha ha' (by have := hA.len hn5 hk3; omega) (by have := hB.len hn5 hk3; omega) hB.up
  rw [show decide (lacks A B = []) = decide (∀ z ∈ A, z ∈ B) from decide_eq_decide.2 lacks_nil] at h
  exact h
theorem roverV {n k j : Nat} {A B C : List Int} {la lb lc : Nat} (hA : VR n k A) (hB : VR n j B) (hn1 : 1 ≤ n) (hn5 : n ≤ 5) (hk3 : k ≤ 3) (hj : 1 ≤ j) (hj3 : j ≤ 3) (hC : overL (n ^ (j - 1)) A B = C) (h1 : A.length = la) (h2 : B.length = lb) (h3 : C.length = lc) :
    ∀ (U : World) (a : Option Addr) (c : Nat) (a' : Option Addr) (c' : Nat), IntsW U a c A → IntsW U a' c' B → Calls Try.prog 34 #[.int .i64 (n : Int), .agg #[.int .i64 (k : Int), .slice a la c], .agg #[.int .i64 (j : Int), .slice a' lb c']] U fun e w' => ∃ x y, e = .returned (.agg #[.int .i64 (k : Int), .slice x lc y]) ∧ IntsW w' x y C ∧ U.grownBy w' none := by
  intro U a c a' c' ha ha'
  have hS := uniq_over (h := n ^ (j - 1)) hA.up hB.up
  subst hC h1 h2 h3
  refine (rOverride_calls n k j A B a a' c c' U ha ha' (by have := hA.len hn5 hk3; omega) (by have := hB.len hn5 hj3; omega) hn1 (by omega) hj hj3 (hA.few hn5 hk3) (hB.few hn5 hj3)).mono ?_
  rintro e w' ⟨x, y, rfl, hs, g⟩
  rw [hS] at hs ⊢
  exact ⟨x, y, rfl, hs.here, g⟩
theorem rturnV {n : Nat} {A C : List Int} {la lc : Nat} (hA : VR n 2 A) (hn1 : 1 ≤ n) (hn5 : n ≤ 5) (hC : uniq (turnL n A) = C) (h1 : A.length = la) (h3 : C.length = lc) :
    ∀ (U : World) (a : Option Addr) (c : Nat), IntsW U a c A → Calls Try.prog 22 #[.int .i64 (n : Int), .agg #[.int .i64 2, .slice a la c]] U fun e w' => ∃ x y, e = .returned (.agg #[.int .i64 2, .slice x lc y]) ∧ IntsW w' x y C ∧ U.grownBy w' none := by
  intro U a c ha
  subst hC h1 h3
  refine (rTranspose_calls n (2 : Int) A a c U ha (by have := hA.len hn5 (by omega); omega) hn1 (by omega) (hA.few hn5 (by omega))).mono ?_
  rintro e w' ⟨x, y, rfl, hs, g⟩
  exact ⟨x, y, rfl, hs.here, g⟩
theorem rclosV {n : Nat} {A C : List Int} {la lc : Nat} (hA : VR n 2 A) (hn5 : n ≤ 5) (hC : uniq (closS n A) = C) (h1 : A.length = la) (h3 : C.length = lc) :
    ∀ (U : World) (a : Option Addr) (c : Nat), IntsW U a c A → Calls Try.prog 24 #[.int .i64 (n : Int), .agg #[.int .i64 2, .slice a la c]] U fun e w' => ∃ x y, e = .returned (.agg #[.int .i64 2, .slice x lc y]) ∧ IntsW w' x y C ∧ U.grownBy w' none := by
  intro U a c ha
  subst hC h1 h3
  refine (rClosure_calls n (2 : Int) A a c U ha (by have := hA.len hn5 (by omega); omega) hn5 hA.up).mono ?_
  rintro e w' ⟨x, y, rfl, hs, g⟩
  exact ⟨x, y, rfl, hs, g⟩
theorem ridenV {n : Nat} {C : List Int} {lc : Nat} (hn5 : n ≤ 5) (hC : idenL n = C) (h3 : C.length = lc) :
    ∀ (U : World) , Calls Try.prog 26 #[.int .i64 (n : Int)] U fun e w' => ∃ x y, e = .returned (.agg #[.int .i64 2, .slice x lc y]) ∧ IntsW w' x y C ∧ U.grownBy w' none := by
  intro U  
  subst hC h3
  refine (rIden_calls n U (by omega)).mono ?_
  rintro e w' ⟨x, y, rfl, hs, g⟩
  exact ⟨x, y, rfl, hs.here, g⟩
/-- Product and its reference: one answer, fault or not. -/
theorem prods_same {n k j : Nat} {A B : List Int} {la lb : Nat} (hA : VR n k A) (hB : VR n j B) (hn5 : n ≤ 5) (hk3 : k ≤ 3) (hj3 : j ≤ 3) (h1 : A.length = la) (h2 : B.length = lb) :
    ∃ (q : Nat) (L : List Int) (l : Nat) (e : Int), q ≤ 3 ∧ VR n q L ∧ L.length = l ∧ (∀ (U : World) (a : Option Addr) (c : Nat) (a' : Option Addr) (c' : Nat), IntsW U a c A → IntsW U a' c' B → Calls Try.prog 13 #[.int .i64 (n : Int), .agg #[.int .i64 (k : Int), .slice a la c], .agg #[.int .i64 (j : Int), .slice a' lb c']] U fun ex w' => ∃ x y, ex = .returned (.tuple #[.agg #[.int .i64 (q : Int), .slice x l y], .int .i64 e]) ∧ IntsW w' x y L ∧ U.grownBy w' none) ∧ (∀ (U : World) (a : Option Addr) (c : Nat) (a' : Option Addr) (c' : Nat), IntsW U a c A → IntsW U a' c' B → Calls Try.prog 14 #[.int .i64 (n : Int), .agg #[.int .i64 (k : Int), .slice a la c], .agg #[.int .i64 (j : Int), .slice a' lb c']] U fun ex w' => ∃ x y, ex = .returned (.tuple #[.agg #[.int .i64 (q : Int), .slice x l y], .int .i64 e]) ∧ IntsW w' x y L ∧ U.grownBy w' none) := by
  by_cases h : k + j ≤ 3
  · refine ⟨k + j, _, _, 0, h, VR.prod hA hB, rfl, fun U a c a' c' ha ha' => prodV (k + j) rfl hA hB hn5 h rfl h1 h2 rfl U a c a' c' ha ha', fun U a c a' c' ha ha' => ?_⟩
    subst h1 h2
    refine (rProduct_calls n k j A B a a' c c' U ha ha' (by have := hA.len hn5 hk3; omega) (by have := hB.len hn5 hj3; omega) (by omega) h (hA.few hn5 hk3) (hB.few hn5 hj3)).mono ?_
    rintro ex w' ⟨x, y, rfl, hs, g⟩
    exact ⟨x, y, rfl, hs.here, g⟩
  · refine ⟨0, [], 0, 42, by omega, VR.nil n 0, rfl, fun U a c a' c' _ _ => ?_, fun U a c a' c' _ _ => ?_⟩
    · refine (prodOdd (n := n) (by omega) hk3 hj3 h1 h2 U a c a' c').mono ?_
      rintro ex w' ⟨rfl, g⟩
      exact ⟨none, 0, rfl, intsW_nil _ _ _, g⟩
    · subst h1 h2
      refine (rProduct_odd n k j A B a a' c c' U (by omega) hk3 hj3).mono ?_
      rintro ex w' ⟨rfl, g⟩
      exact ⟨none, 0, rfl, intsW_nil _ _ _, g⟩
/-- Join and its reference: one answer, fault or not. -/
theorem joins2_same {n k j : Nat} {A B : List Int} {la lb : Nat} (hA : VR n k A) (hB : VR n j B) (hn1 : 1 ≤ n) (hn5 : n ≤ 5) (hk1 : 1 ≤ k) (hk3 : k ≤ 3) (hj1 : 1 ≤ j) (hj3 : j ≤ 3) (hfA : A.length ≤ 40) (hfB : B.length ≤ 40) (h1 : A.length = la) (h2 : B.length = lb) :
    ∃ (q : Nat) (L : List Int) (l : Nat) (e : Int), q ≤ 3 ∧ VR n q L ∧ L.length = l ∧ (∀ (U : World) (a : Option Addr) (c : Nat) (a' : Option Addr) (c' : Nat), IntsW U a c A → IntsW U a' c' B → Calls Try.prog 15 #[.int .i64 (n : Int), .agg #[.int .i64 (k : Int), .slice a la c], .agg #[.int .i64 (j : Int), .slice a' lb c']] U fun ex w' => ∃ x y, ex = .returned (.tuple #[.agg #[.int .i64 (q : Int), .slice x l y], .int .i64 e]) ∧ IntsW w' x y L ∧ U.grownBy w' none) ∧ (∀ (U : World) (a : Option Addr) (c : Nat) (a' : Option Addr) (c' : Nat), IntsW U a c A → IntsW U a' c' B → Calls Try.prog 16 #[.int .i64 (n : Int), .agg #[.int .i64 (k : Int), .slice a la c], .agg #[.int .i64 (j : Int), .slice a' lb c']] U fun ex w' => ∃ x y, ex = .returned (.tuple #[.agg #[.int .i64 (q : Int), .slice x l y], .int .i64 e]) ∧ IntsW w' x y L ∧ U.grownBy w' none) := by
  by_cases h : 3 ≤ k + j ∧ k + j ≤ 5
  · refine ⟨k + j - 2, _, _, 0, by omega, VR.join hA hB hn1 hk1 hj1, rfl, fun U a c a' c' ha ha' => joinV (k + j - 2) rfl hA hB hn1 hn5 hk1 hk3 hj1 hj3 h.1 h.2 rfl h1 h2 rfl U a c a' c' ha ha', fun U a c a' c' ha ha' => ?_⟩
    subst h1 h2
    refine (rJoin_calls n k j A B a a' c c' U ha ha' (by omega) (by omega) hn1 (by omega) hj1 hj3 h.1 h.2 (hA.few hn5 hk3) (hB.few hn5 hj3)).mono ?_
    rintro ex w' ⟨x, y, rfl, hs, g⟩
    exact ⟨x, y, rfl, hs.here, g⟩
  · refine ⟨0, [], 0, 42, by omega, VR.nil n 0, rfl, fun U a c a' c' _ _ => ?_, fun U a c a' c' _ _ => ?_⟩
    · refine (joinOdd (n := n) (by omega) hk3 hj3 h1 h2 U a c a' c').mono ?_
      rintro ex w' ⟨rfl, g⟩
      exact ⟨none, 0, rfl, intsW_nil _ _ _, g⟩
    · subst h1 h2
      refine (rJoin_odd n k j A B a a' c c' U (by omega) hk3 hj3).mono ?_
      rintro ex w' ⟨rfl, g⟩
      exact ⟨none, 0, rfl, intsW_nil _ _ _, g⟩
end Go.Proofs.Ytkoigonbncpbaaa
