/- The same picks, the same rows. -/
import Derived.Test.YtbddpjofhddilaaNXA
namespace Go.Proofs.Ytbddpjofhddilaa
open Go.RowKit

theorem insAll_free {A DB : List Bd} (hA : GoodL A DB) (P : List Bool) : ∀ n : Nat, (insAll P A n).2 = (freeTo A n).length
  | 0 => rfl
  | n + 1 => by
    have ih := insAll_free hA P n
    cases hx : A[n]? with
    | none => rw [insAll, freeTo, hx, List.append_nil]; exact ih
    | some x =>
      obtain ⟨d, hd⟩ := getL hA.1 hx
      have g := hA.2 n x d hx hd
      rw [insAll_succ hx, freeTo_succ hx, List.length_append, freeX, List.length_map, diff_filter g.u2 g.u1]
      show (insTo x.1.2 P x.2.2 (insAll P A n).2 x.2.2.length).2 = _
      rw [insTo_used, List.take_length, ih]
theorem same_iff {A DB : List Bd} (hA : GoodL A DB) (P Q : List Bool) : ∀ n : Nat, (∀ j, j < (freeTo A n).length → P.getD j false = Q.getD j false) ↔ (insAll P A n).1 = (insAll Q A n).1
  | 0 => ⟨fun _ => rfl, fun _ j hj => absurd hj (Nat.not_lt_zero _)⟩
  | n + 1 => by
    have ih := same_iff hA P Q n
    cases hx : A[n]? with
    | none => rw [insAll, insAll, freeTo, hx, List.append_nil]; exact ih
    | some x =>
      obtain ⟨d, hd⟩ := getL hA.1 hx
      have g := hA.2 n x d hx hd
      have e1 := insAll_free hA P n
      have e2 := insAll_free hA Q n
      have e3 := insAll_free hA P (n + 1)
      rw [insAll_succ hx] at e3
      have e3' : (insTo x.1.2 P x.2.2 (insAll P A n).2 x.2.2.length).2 = (freeTo A (n + 1)).length := e3
      have hle : (freeTo A n).length ≤ (freeTo A (n + 1)).length := by rw [freeTo_succ hx, List.length_append]; omega
      rw [insAll_succ hx, insAll_succ hx]
      constructor
      · intro h
        have h1 := ih.1 fun j hj => h j (by omega)
        have h2 := insTo_same x.1.2 P Q x.2.2 (insAll P A n).2 x.2.2.length (fun j _ hj => h j (by rw [← e3']; exact hj))
        show (insAll P A n).1 ++ [(x.2.1, (insTo x.1.2 P x.2.2 (insAll P A n).2 x.2.2.length).1)] = (insAll Q A n).1 ++ [(x.2.1, (insTo x.1.2 Q x.2.2 (insAll Q A n).2 x.2.2.length).1)]
        rw [h1, h2, e1, e2]
      · intro h j hj
        have h' : (insAll P A n).1 ++ [(x.2.1, (insTo x.1.2 P x.2.2 (insAll P A n).2 x.2.2.length).1)] = (insAll Q A n).1 ++ [(x.2.1, (insTo x.1.2 Q x.2.2 (insAll Q A n).2 x.2.2.length).1)] := h
        obtain ⟨h1, h2⟩ := List.append_inj' h' rfl
        have h3 : (insTo x.1.2 P x.2.2 (insAll P A n).2 x.2.2.length).1 = (insTo x.1.2 Q x.2.2 (insAll P A n).2 x.2.2.length).1 := by
          simp only [List.cons.injEq, Prod.mk.injEq, true_and, and_true] at h2
          rw [h2, e1, e2]
        by_cases hjn : j < (freeTo A n).length
        · exact ih.2 h1 j hjn
        · exact insTo_back x.1.2 P Q x.2.2 (insAll P A n).2 g.u2 x.2.2.length h3 j (by omega) (by omega)
/-- Whether two rows of picks agree on the first. -/
def smTo (P Q : List Bool) (n : Nat) : Bool := decide (∀ j, j < n → P.getD j false = Q.getD j false)
theorem smTo_succ (P Q : List Bool) (n : Nat) : smTo P Q (n + 1) = (smTo P Q n && decide (P.getD n false = Q.getD n false)) := by
  rw [Bool.eq_iff_iff, Bool.and_eq_true, smTo, smTo, decide_eq_true_eq, decide_eq_true_eq, decide_eq_true_eq]
  constructor
  · exact fun h => ⟨fun j hj => h j (by omega), h n (by omega)⟩
  · rintro ⟨h1, h2⟩ j hj
    by_cases hjn : j = n
    · subst hjn; exact h2
    · exact h1 j (by omega)
/-- Whether two rows of relations agree on the first. -/
def eqTo (X Y : List Rl) (n : Nat) : Bool := decide (X.take n = Y.take n)
theorem eqTo_succ {X Y : List Rl} {n : Nat} {x y : Rl} (hx : X[n]? = some x) (hy : Y[n]? = some y) : eqTo X Y (n + 1) = (eqTo X Y n && decide (x = y)) := by
  rw [Bool.eq_iff_iff, Bool.and_eq_true, eqTo, eqTo, decide_eq_true_eq, decide_eq_true_eq, decide_eq_true_eq, List.take_add_one, List.take_add_one, hx, hy]
  constructor
  · intro h
    obtain ⟨h1, h2⟩ := List.append_inj' h rfl
    exact ⟨h1, by simpa using h2⟩
  · rintro ⟨h1, rfl⟩
    rw [h1]
theorem same_eq {A DB : List Bd} (hA : GoodL A DB) (P Q : List Bool) {n : Nat} (hn : A.length = n) : smTo P Q (freeTo A n).length = eqTo (insS P A) (insS Q A) n := by
  have h1 := insS_len P A
  have h2 := insS_len Q A
  rw [Bool.eq_iff_iff, smTo, eqTo, decide_eq_true_eq, decide_eq_true_eq, List.take_of_length_le (by omega), List.take_of_length_le (by omega)]
  subst hn
  exact same_iff hA P Q A.length
end Go.Proofs.Ytbddpjofhddilaa
