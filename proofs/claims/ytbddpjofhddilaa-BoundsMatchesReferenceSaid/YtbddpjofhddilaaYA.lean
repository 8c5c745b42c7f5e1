/- Rows that rise; containment, meet and free tuples as the reference counts them: what lists say. -/
import Derived.Test.YtbddpjofhddilaaYW
namespace Go.Proofs.Ytbddpjofhddilaa
open Go.RowKit

/-- A row of tuples that are not negative and rise. -/
def upB (zs : List Int) : Bool := decide (Up zs) && zs.all fun z => decide (0 ≤ z)
theorem upB_iff {zs : List Int} : upB zs = true ↔ Up zs ∧ ∀ z ∈ zs, 0 ≤ z := by
  rw [upB, Bool.and_eq_true, decide_eq_true_eq, List.all_eq_true]
  exact and_congr_right fun _ => ⟨fun h z hz => of_decide_eq_true (h z hz), fun h z hz => decide_eq_true (h z hz)⟩
theorem take_mem {α : Type} {l : List α} {i : Nat} {y : α} (h : y ∈ l.take i) : ∃ j, j < i ∧ l[j]? = some y := by
  obtain ⟨j, hj⟩ := List.getElem?_of_mem h
  rw [List.getElem?_take] at hj
  split at hj
  · exact ⟨j, by assumption, hj⟩
  · cases hj
theorem up_next {zs : List Int} {i : Nat} {z : Int} (h : Up (zs.take i)) (hz : zs[i]? = some z) (hp : ∀ y, 0 < i → zs[i - 1]? = some y → y < z) : Up (zs.take (i + 1)) := by
  rw [List.take_add_one, hz, Option.toList_some]
  refine up_snoc h fun y hy => ?_
  obtain ⟨j, hj, hy⟩ := take_mem hy
  have hi : i < zs.length := (List.getElem?_eq_some_iff.1 hz).1
  obtain ⟨u, hu⟩ : ∃ u, zs[i - 1]? = some u := ⟨_, List.getElem?_eq_getElem (by omega)⟩
  have hl := hp u (by omega) hu
  by_cases hji : j = i - 1
  · subst hji
    rw [hy] at hu
    cases hu
    exact hl
  · have e1 : (zs.take i)[j]? = some y := by rw [List.getElem?_take, if_pos hj]; exact hy
    have e2 : (zs.take i)[i - 1]? = some u := by rw [List.getElem?_take, if_pos (by omega)]; exact hu
    have := up_get h (show j < i - 1 by omega) e1 e2
    omega
theorem upB_next {zs : List Int} {i : Nat} {z : Int} (h : upB (zs.take i) = true) (hz : zs[i]? = some z) (h0 : 0 ≤ z) (hp : ∀ y, 0 < i → zs[i - 1]? = some y → y < z) : upB (zs.take (i + 1)) = true := by
  obtain ⟨h1, h2⟩ := upB_iff.1 h
  refine upB_iff.2 ⟨up_next h1 hz hp, fun y hy => ?_⟩
  rw [List.take_add_one, hz, Option.toList_some, List.mem_append, List.mem_singleton] at hy
  rcases hy with hy | rfl
  · exact h2 y hy
  · exact h0
theorem upB_neg {zs : List Int} {i : Nat} {z : Int} (hz : zs[i]? = some z) (h : z < 0) : upB zs = false := by
  cases hu : upB zs with
  | false => rfl
  | true => have := (upB_iff.1 hu).2 z (List.mem_of_getElem? hz); omega
theorem upB_fall {zs : List Int} {i : Nat} {y z : Int} (hi : 0 < i) (hy : zs[i - 1]? = some y) (hz : zs[i]? = some z) (h : z ≤ y) : upB zs = false := by
  cases hu : upB zs with
  | false => rfl
  | true => have := up_get (upB_iff.1 hu).1 (show i - 1 < i by omega) hy hz; omega
theorem up_rising {hi : Int} : ∀ {l : List Int} {lo : Int}, rising hi lo l = true → Up l ∧ ∀ z ∈ l, lo < z ∧ z < hi
  | [], _, _ => ⟨List.Pairwise.nil, fun z hz => by cases hz⟩
  | x :: l, lo, h => by
    rw [rising, Bool.and_eq_true, Bool.and_eq_true, decide_eq_true_eq, decide_eq_true_eq] at h
    obtain ⟨h1, h2⟩ := up_rising h.2
    refine ⟨List.pairwise_cons.2 ⟨fun z hz => (h2 z hz).1, h1⟩, fun z hz => ?_⟩
    rcases List.mem_cons.1 hz with rfl | hz
    · exact h.1
    · have := h2 z hz
      exact ⟨by omega, this.2⟩
theorem rising_iff {hi lo : Int} {l : List Int} : rising hi lo l = true ↔ Up l ∧ ∀ z ∈ l, lo < z ∧ z < hi := ⟨up_rising, fun h => rising_up h.1 h.2⟩
theorem relValid_up {n x : Int} {zs : List Int} (h : relValid n x zs = true) : Up zs := (up_rising (relValid_iff.1 h).2).1

theorem lacks_nil {xs ys : List Int} : lacks xs ys = [] ↔ ∀ z ∈ xs, z ∈ ys := by
  rw [lacks, List.filter_eq_nil_iff]
  refine forall_congr' fun z => imp_congr_right fun _ => ?_
  by_cases h : z ∈ ys <;> simp [h]
theorem lacks_inB {xs ys : List Int} (hx : Up xs) (hy : Up ys) : decide (lacks xs ys = []) = inB xs ys := by
  cases h : inB xs ys with
  | true => exact decide_eq_true (lacks_nil.2 ((inB_iff hx hy).1 h))
  | false => exact decide_eq_false fun e => by rw [(inB_iff hx hy).2 (lacks_nil.1 e)] at h; cases h
theorem lacks_up {xs ys : List Int} (hx : Up xs) : Up (lacks xs ys) := hx.filter _
theorem lacks_diff {xs ys : List Int} (hx : Up xs) (hy : Up ys) : lacks xs ys = diffL xs ys :=
  up_ext (lacks_up hx) (merge_up _ _ _ hx hy) fun z => by
    rw [mem_diff hx hy, lacks, List.mem_filter]
    simp
/-- The tuples that another row has too. -/
def shares (xs ys : List Int) : List Int := xs.filter fun z => decide (z ∈ ys)
theorem shares_take {xs ys : List Int} {i : Nat} {z : Int} (h : xs[i]? = some z) : shares (xs.take (i + 1)) ys = if z ∈ ys then shares (xs.take i) ys ++ [z] else shares (xs.take i) ys := by
  rw [shares, List.take_add_one, h, Option.toList_some, List.filter_append]
  by_cases hz : z ∈ ys <;> simp [hz, shares]
theorem shares_len (xs ys : List Int) : (shares xs ys).length ≤ xs.length := List.length_filter_le _ _
theorem shares_inter {xs ys : List Int} (hx : Up xs) (hy : Up ys) : shares xs ys = interL xs ys :=
  up_ext (hx.filter _) (merge_up _ _ _ hx hy) fun z => by
    rw [mem_inter hx hy, shares, List.mem_filter]
    simp

/-- A number put into a row in its order. -/
def addL (l : List Int) (z : Int) : List Int := unionL l [z]
theorem addL_up {l : List Int} {z : Int} (h : Up l) : Up (addL l z) := merge_up _ _ _ h (List.pairwise_singleton _ _)
theorem mem_addL {l : List Int} {z x : Int} (h : Up l) : x ∈ addL l z ↔ x ∈ l ∨ x = z := by
  rw [addL, mem_union h (List.pairwise_singleton _ _), List.mem_singleton]
theorem addL_len (l : List Int) (z : Int) : (addL l z).length ≤ l.length + 1 := merge_len (fun x y => x || y) l [z]
theorem addL_has {l : List Int} {z : Int} (h : Up l) (hz : z ∈ l) : addL l z = l :=
  up_ext (addL_up h) h fun _x => (mem_addL h).trans ⟨fun e => e.elim id fun e => e ▸ hz, .inl⟩
theorem addL_cut {l : List Int} {z : Int} {k : Nat} (h : Up l) (h1 : ∀ (j : Nat) (y : Int), j < k → l[j]? = some y → y < z) (h2 : ∀ (j : Nat) (y : Int), k ≤ j → l[j]? = some y → z < y) : addL l z = l.take k ++ [z] ++ l.drop k := by
  have hk1 : ∀ y ∈ l.take k, y < z := fun y hy => by
    obtain ⟨j, hj, e⟩ := take_mem hy
    exact h1 j y hj e
  have hk2 : ∀ y ∈ l.drop k, z < y := fun y hy => by
    obtain ⟨j, hj⟩ := List.getElem?_of_mem hy
    rw [List.getElem?_drop] at hj
    exact h2 (k + j) y (by omega) hj
  refine up_ext (addL_up h) ?_ fun x => ?_
  · rw [Up, List.pairwise_append]
    refine ⟨up_snoc (h.sublist (List.take_sublist _ _)) hk1, h.sublist (List.drop_sublist _ _), fun a ha b hb => ?_⟩
    have hb' := hk2 b hb
    rw [List.mem_append, List.mem_singleton] at ha
    rcases ha with ha | rfl
    · have := hk1 a ha; omega
    · exact hb'
  · rw [mem_addL h, List.mem_append, List.mem_append, List.mem_singleton]
    have : x ∈ l ↔ x ∈ l.take k ∨ x ∈ l.drop k := by rw [← List.mem_append, List.take_append_drop]
    rw [this]
    exact ⟨fun e => by rcases e with (e | e) | e <;> simp [e], fun e => by rcases e with (e | e) | e <;> simp [e]⟩
/-- The first i of a row put in order. -/
def ofTo (rs : List Int) : Nat → List Int
  | 0 => []
  | i + 1 => match rs[i]? with | some z => addL (ofTo rs i) z | none => ofTo rs i
theorem ofTo_next {rs : List Int} {i : Nat} {z : Int} (h : rs[i]? = some z) : ofTo rs (i + 1) = addL (ofTo rs i) z := by rw [ofTo, h]
theorem ofTo_up {rs : List Int} : ∀ {i : Nat}, Up (ofTo rs i)
  | 0 => List.Pairwise.nil
  | i + 1 => by
    rw [ofTo]
    split
    · exact addL_up ofTo_up
    · exact ofTo_up
theorem ofTo_len {rs : List Int} : ∀ {i : Nat}, (ofTo rs i).length ≤ i
  | 0 => Nat.le_refl _
  | i + 1 => by
    have ih := ofTo_len (rs := rs) (i := i)
    rw [ofTo]
    split
    · exact Nat.le_trans (addL_len _ _) (by omega)
    · omega
theorem mem_ofTo {rs : List Int} {x : Int} : ∀ {i : Nat}, x ∈ ofTo rs i ↔ ∃ j, j < i ∧ rs[j]? = some x
  | 0 => by simp [ofTo]
  | i + 1 => by
    cases h : rs[i]? with
    | none =>
      rw [ofTo, h]
      simp only []
      rw [mem_ofTo]
      exact ⟨fun ⟨j, h1, h2⟩ => ⟨j, by omega, h2⟩, fun ⟨j, h1, h2⟩ => ⟨j, by
        by_cases hj : j = i
        · subst hj; rw [h] at h2; cases h2
        · omega, h2⟩⟩
    | some z =>
      rw [ofTo_next h, mem_addL ofTo_up, mem_ofTo]
      constructor
      · rintro (⟨j, h1, h2⟩ | rfl)
        · exact ⟨j, by omega, h2⟩
        · exact ⟨i, by omega, h⟩
      · rintro ⟨j, h1, h2⟩
        by_cases hj : j = i
        · subst hj; rw [h] at h2; cases h2; exact .inr rfl
        · exact .inl ⟨j, by omega, h2⟩
theorem ofTo_union {xs ys : List Int} (hx : Up xs) (hy : Up ys) : ofTo (xs ++ ys) (xs ++ ys).length = unionL xs ys :=
  up_ext ofTo_up (merge_up _ _ _ hx hy) fun z => by
    rw [mem_ofTo, mem_union hx hy, ← List.mem_append]
    exact ⟨fun ⟨j, _, h⟩ => List.mem_of_getElem? h, fun h => by
      obtain ⟨j, hj⟩ := List.getElem?_of_mem h
      exact ⟨j, (List.getElem?_eq_some_iff.1 hj).1, hj⟩⟩

/-- Bounds and a model that are few. -/
def fewX (x : Bd) : Bool := decide (x.1.2.length ≤ 2000) && decide (x.2.2.length ≤ 2000)
def fewR (r : Rl) : Bool := decide (r.2.length ≤ 2000)
def fewS (l : List Rl) : Bool := decide (l.length ≤ 10) && l.all fewR
def fewB (B : List Bd) (L : List (List Rl)) : Bool := decide (B.length ≤ 10) && decide (L.length ≤ 10) && B.all fewX && L.all fewS
theorem fewB_iff {B : List Bd} {L : List (List Rl)} : fewB B L = true ↔ (B.length ≤ 10 ∧ L.length ≤ 10) ∧ B.all fewX = true ∧ L.all fewS = true := by
  simp only [fewB, Bool.and_eq_true, decide_eq_true_eq, and_assoc]
theorem few_not {B : List Bd} {L : List (List Rl)} (h : ¬ ((B.length ≤ 10 ∧ L.length ≤ 10) ∧ B.all fewX = true ∧ L.all fewS = true)) : fewB B L = false := by
  cases hs : fewB B L with
  | false => rfl
  | true => exact absurd (fewB_iff.1 hs) h
/-- Bounds and a model all of whose rows rise. -/
def riseX (x : Bd) : Bool := upB x.1.2 && upB x.2.2
def riseS (l : List Rl) : Bool := l.all fun r => upB r.2
def riseB (B : List Bd) (L : List (List Rl)) : Bool := B.all riseX && L.all riseS
end Go.Proofs.Ytbddpjofhddilaa
