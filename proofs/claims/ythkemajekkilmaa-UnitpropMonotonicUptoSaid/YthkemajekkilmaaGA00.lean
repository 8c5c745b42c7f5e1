/- Stage 20, joined: A1, A2, A3, M0, S1, Y2, Y3, H0, Q1. -/
import Derived.Test.YthkemajekkilmaaProg
import Derived.WalkKit
import Derived.WalkSpells
import Derived.WalkLawsBesides
import Derived.Deep.QuietTactic
import Derived.Deep.LoopGhost
import Derived.Maps.AppendAt
import Derived.BigQuiet
import Derived.Lib.Hide
import Derived.IntWalk
import Derived.Laws.AppendOwn
import Derived.OwnWalk
import Derived.Maps.OwnIn
import Derived.Deep.RegionWith
import Derived.Lib.SliceRun
import Derived.Deep.RegionHeld3
import Derived.Laws.MakeOwn
import Derived.MapKept
import Derived.Maps.OwnSet
import Derived.Maps.Views
import Derived.Maps.RangeWalk
import Derived.LoopTactic
import Derived.BigRegion
import Derived.Laws.OwnMore
import Derived.OneCell
/- Unit propagation, plain: what is derived, and what a run of it ends with. -/
namespace Go.Proofs.Ythkemajekkilmaa
/-- A list without its repetitions, in the order of the first occurrences. -/
def uq (l : List Int) : List Int := l.foldl (fun acc x => if x ∈ acc then acc else acc ++ [x]) []
theorem uq_snoc (l : List Int) (x : Int) : uq (l ++ [x]) = if x ∈ uq l then uq l else uq l ++ [x] := by
  unfold uq; rw [List.foldl_append]; rfl
theorem snoc_ind {α : Type} {P : List α → Prop} (h0 : P []) (h1 : ∀ l x, P l → P (l ++ [x])) : ∀ l, P l := by
  intro l
  have : ∀ r : List α, P r.reverse := by
    intro r
    induction r with
    | nil => exact h0
    | cons a r ih => rw [List.reverse_cons]; exact h1 _ _ ih
  have h := this l.reverse
  rwa [List.reverse_reverse] at h
theorem mem_uq (l : List Int) (y : Int) : y ∈ uq l ↔ y ∈ l := by
  refine snoc_ind (P := fun l => ∀ y, y ∈ uq l ↔ y ∈ l) (fun y => by simp [uq]) (fun l x ih y => ?_) l y
  rw [uq_snoc]
  by_cases h : x ∈ uq l
  · rw [if_pos h, ih]
    have h' := (ih x).1 h
    simp only [List.mem_append, List.mem_singleton]
    constructor
    · exact .inl
    · rintro (h | rfl)
      · exact h
      · exact h'
  · rw [if_neg h]; simp only [List.mem_append, List.mem_singleton, ih]
theorem nodup_uq (l : List Int) : (uq l).Nodup := by
  refine snoc_ind (P := fun l => (uq l).Nodup) (by simp [uq]) (fun l x ih => ?_) l
  rw [uq_snoc]
  by_cases h : x ∈ uq l
  · rw [if_pos h]; exact ih
  · rw [if_neg h]
    refine List.nodup_append.2 ⟨ih, by simp, ?_⟩
    intro a ha b hb
    simp at hb
    intro e
    exact h (by rw [← hb, ← e]; exact ha)
/-- A literal is undetermined. -/
def und (tr : List Int) (x : Int) : Bool := !(tr.contains x) && !(tr.contains (-x))
theorem und_iff (tr : List Int) (x : Int) : und tr x = true ↔ x ∉ tr ∧ -x ∉ tr := by
  simp [und]
/-- How many literals of a clause are true, and undetermined. -/
def satN (tr c : List Int) : Nat := (uq c).countP (fun y => tr.contains y)
def opnN (tr c : List Int) : Nat := (uq c).countP (und tr)
/-- The clause is falsified or unit. -/
def hot (tr c : List Int) : Bool := satN tr c == 0 && decide (opnN tr c < 2)
theorem countP_lt_two {p : Int → Bool} : ∀ {l : List Int}, l.Nodup → (l.countP p < 2 ↔ ∀ x ∈ l, ∀ y ∈ l, p x = true → p y = true → x = y)
  | [], _ => by simp
  | a :: l, h => by
    have h' := List.nodup_cons.1 h
    have ih := countP_lt_two (p := p) h'.2
    rw [List.countP_cons]
    by_cases ha : p a = true
    · rw [if_pos ha]
      constructor
      · intro hlt x hx y hy px py
        have h0 : l.countP p = 0 := by omega
        rw [List.countP_eq_zero] at h0
        rcases List.mem_cons.1 hx with rfl | hx
        · rcases List.mem_cons.1 hy with rfl | hy
          · rfl
          · exact absurd py (h0 y hy)
        · exact absurd px (h0 x hx)
      · intro hall
        have h0 : l.countP p = 0 := List.countP_eq_zero.2 fun y hy py => by
          have := hall a (List.mem_cons_self ..) y (List.mem_cons_of_mem _ hy) ha py
          exact h'.1 (this ▸ hy)
        omega
    · rw [if_neg ha, Nat.add_zero, ih]
      constructor
      · intro hall x hx y hy px py
        rcases List.mem_cons.1 hx with rfl | hx
        · exact absurd px ha
        rcases List.mem_cons.1 hy with rfl | hy
        · exact absurd py ha
        exact hall x hx y hy px py
      · exact fun hall x hx y hy => hall x (List.mem_cons_of_mem _ hx) y (List.mem_cons_of_mem _ hy)
theorem hot_iff (tr c : List Int) : hot tr c = true ↔ (∀ y ∈ c, y ∉ tr) ∧ ∀ x ∈ c, ∀ y ∈ c, und tr x = true → und tr y = true → x = y := by
  unfold hot satN opnN
  simp only [Bool.and_eq_true, beq_iff_eq, decide_eq_true_eq]
  rw [countP_lt_two (nodup_uq c), List.countP_eq_zero]
  simp only [mem_uq, List.contains_iff_mem]
/-- The clause is falsified. -/
theorem find_none {tr c : List Int} (h : c.find? (und tr) = none) (h0 : ∀ y ∈ c, y ∉ tr) : ∀ y ∈ c, -y ∈ tr := by
  intro y hy
  have h1 := List.find?_eq_none.1 h y hy
  rw [und_iff] at h1
  exact Classical.byContradiction fun hn => h1 ⟨h0 y hy, hn⟩
/-- One step of propagation after the other: the trail, the clauses of its implied literals, the conflict. -/
def prop (C : List (List Int)) : Nat → List Int → List Int → List Int × List Int × Int
  | 0, tr, rs => (tr, rs, -1)
  | n + 1, tr, rs => match C.findIdx? (hot tr) with
    | none => (tr, rs, -1)
    | some i => match (C.getD i []).find? (und tr) with
      | none => (tr, rs, (i : Int))
      | some x => prop C n (tr ++ [x]) (rs ++ [(i : Int)])
/-- What follows. -/
inductive Der (C : List (List Int)) (A : List Int) : Int → Prop
  | ass (x : Int) : x ∈ A → Der C A x
  | imp (c : List Int) (x : Int) : c ∈ C → x ∈ c → (∀ y ∈ c, y ≠ x → Der C A (-y)) → Der C A x
def Conf (C : List (List Int)) (A : List Int) : Prop := ∃ c ∈ C, ∀ y ∈ c, Der C A (-y)
theorem Der.mono {C D : List (List Int)} {A B : List Int} (hC : ∀ c ∈ C, c ∈ D) (hA : ∀ x ∈ A, Der D B x) {x : Int} (h : Der C A x) : Der D B x := by
  induction h with
  | ass x hx => exact hA x hx
  | imp c x hc hx _ ih => exact .imp c x (hC c hc) hx ih
theorem Conf.mono {C D : List (List Int)} {A B : List Int} (hC : ∀ c ∈ C, c ∈ D) (hA : ∀ x ∈ A, Der D B x) (h : Conf C A) : Conf D B := by
  obtain ⟨c, hc, h⟩ := h
  exact ⟨c, hC c hc, fun y hy => (h y hy).mono hC hA⟩
/-- The trail holds no literal with its opposite. -/
def Cons (tr : List Int) : Prop := ∀ x ∈ tr, -x ∉ tr
theorem Cons.snoc {tr : List Int} {x : Int} (h : Cons tr) (hx : x ≠ 0) (hu : und tr x = true) : Cons (tr ++ [x]) := by
  obtain ⟨h1, h2⟩ := (und_iff tr x).1 hu
  intro y hy
  simp only [List.mem_append, List.mem_singleton] at hy ⊢
  rintro (h3 | h3) <;> rcases hy with hy | rfl
  · exact h y hy h3
  · exact h2 h3
  · exact h2 (by rw [← h3, Int.neg_neg]; exact hy)
  · omega
/-- No clause is falsified or unit. -/
def Shut (C : List (List Int)) (tr : List Int) : Prop := ∀ c ∈ C, hot tr c = false
/-- What a closed trail holds is all that follows. -/
theorem shut_all {C : List (List Int)} {A tr : List Int} (hs : Shut C tr) (hc : Cons tr) (hA : ∀ x ∈ A, x ∈ tr) {x : Int} (h : Der C A x) : x ∈ tr := by
  induction h with
  | ass x hx => exact hA x hx
  | imp c x hcC hx _ ih =>
    apply Classical.byContradiction
    intro hn
    have hh := hs c hcC
    have : hot tr c = true := (hot_iff tr c).2 ⟨fun y hy hyt => by
      by_cases e : y = x
      · exact hn (e ▸ hyt)
      · exact hc y hyt (ih y hy e), fun u hu v hv pu pv => by
      have key : ∀ u ∈ c, und tr u = true → u = x := fun u hu pu => by
        apply Classical.byContradiction
        intro e
        exact ((und_iff tr u).1 pu).2 (ih u hu e)
      rw [key u hu pu, key v hv pv]⟩
    rw [this] at hh
    cases hh
theorem shut_conf {C : List (List Int)} {A tr : List Int} (hs : Shut C tr) (hc : Cons tr) (hA : ∀ x ∈ A, x ∈ tr) : ¬ Conf C A := by
  rintro ⟨c, hcC, h⟩
  have hh := hs c hcC
  have h1 : ∀ y ∈ c, -y ∈ tr := fun y hy => shut_all hs hc hA (h y hy)
  have : hot tr c = true := (hot_iff tr c).2 ⟨fun y hy hyt => hc y hyt (h1 y hy), fun u hu v _ pu _ => absurd (h1 u hu) ((und_iff tr u).1 pu).2⟩
  rw [this] at hh
  cases hh
theorem findIdx_none {C : List (List Int)} {tr : List Int} (h : C.findIdx? (hot tr) = none) : Shut C tr := by
  intro c hc
  have := List.findIdx?_eq_none_iff.1 h c hc
  exact this
theorem findIdx_some {C : List (List Int)} {tr : List Int} {i : Nat} (h : C.findIdx? (hot tr) = some i) : i < C.length ∧ C.getD i [] ∈ C ∧ hot tr (C.getD i []) = true := by
  obtain ⟨h1, h2, _⟩ := List.findIdx?_eq_some_iff_getElem.1 h
  have e : C.getD i [] = C[i] := by rw [List.getD_eq_getElem?_getD, List.getElem?_eq_getElem h1]; rfl
  exact ⟨h1, by rw [e]; exact List.getElem_mem h1, by rw [e]; exact h2⟩
/-- What a step implies follows. -/
theorem der_step {C : List (List Int)} {A tr c : List Int} (hd : ∀ y ∈ tr, Der C A y) (hc : c ∈ C) (hh : hot tr c = true) {x : Int} (hx : c.find? (und tr) = some x) : Der C A x := by
  obtain ⟨h0, h1⟩ := (hot_iff tr c).1 hh
  have hxc := List.mem_of_find?_eq_some hx
  have hxu := List.find?_some hx
  refine .imp c x hc hxc fun y hy hne => ?_
  apply hd
  apply Classical.byContradiction
  intro hn
  exact hne (h1 y hy x hxc ((und_iff tr y).2 ⟨h0 y hy, hn⟩) hxu)
end Go.Proofs.Ythkemajekkilmaa
/- Unit propagation, plain: what a run answers. -/
namespace Go.Proofs.Ythkemajekkilmaa
/-- How many variables are undetermined. -/
def free (V : Nat) (tr : List Int) : Nat := (List.range V).countP (fun v : Nat => und tr ((v : Int) + 1))
theorem countP_lt_of {p q : Nat → Bool} {l : List Nat} (h : ∀ x ∈ l, q x = true → p x = true) {a : Nat} (ha : a ∈ l) (pa : p a = true) (qa : q a = false) : l.countP q < l.countP p := by
  induction l with
  | nil => cases ha
  | cons b l ih =>
    have hb := h b (List.mem_cons_self ..)
    have hl : l.countP q ≤ l.countP p := List.countP_mono_left fun x hx => h x (List.mem_cons_of_mem _ hx)
    rw [List.countP_cons, List.countP_cons]
    rcases List.mem_cons.1 ha with rfl | ha
    · rw [if_pos pa, if_neg (by rw [qa]; decide)]; omega
    · have := ih (fun x hx => h x (List.mem_cons_of_mem _ hx)) ha
      cases hq : q b with
      | true => rw [if_pos rfl, if_pos (hb hq)]; omega
      | false => rw [if_neg (by decide)]; split <;> omega
theorem und_snoc {tr : List Int} {x y : Int} : und (tr ++ [x]) y = (und tr y && !(y == x) && !(-y == x)) := by
  rw [Bool.eq_iff_iff, und_iff]
  simp only [List.mem_append, List.mem_singleton, not_or, Bool.and_eq_true, und_iff, Bool.not_eq_true', beq_eq_false_iff_ne]
  constructor
  · rintro ⟨⟨a, b⟩, c, d⟩; exact ⟨⟨⟨a, c⟩, b⟩, d⟩
  · rintro ⟨⟨⟨a, c⟩, b⟩, d⟩; exact ⟨⟨a, b⟩, c, d⟩
/-- A literal that is in range. -/
def InR (V : Nat) (x : Int) : Prop := x ≠ 0 ∧ x ≤ V ∧ -V ≤ x
theorem free_snoc {V : Nat} {tr : List Int} {x : Int} (h : InR V x) (hu : und tr x = true) : free V (tr ++ [x]) < free V tr := by
  obtain ⟨h0, h1, h2⟩ := h
  unfold free
  refine countP_lt_of (a := x.natAbs - 1) (fun v _ hv => ?_) (by rw [List.mem_range]; omega) ?_ ?_
  · rw [und_snoc] at hv; simp only [Bool.and_eq_true] at hv; exact hv.1.1
  · rw [und_iff] at hu ⊢
    rcases Int.natAbs_eq x with e | e
    · have : ((x.natAbs - 1 : Nat) : Int) + 1 = x := by omega
      rw [this]; exact hu
    · have : ((x.natAbs - 1 : Nat) : Int) + 1 = -x := by omega
      rw [this, Int.neg_neg]; exact ⟨hu.2, hu.1⟩
  · rw [und_snoc]
    rcases Int.natAbs_eq x with e | e
    · have : ((x.natAbs - 1 : Nat) : Int) + 1 = x := by omega
      rw [this]; simp
    · have : ((x.natAbs - 1 : Nat) : Int) + 1 = -x := by omega
      rw [this]; simp
theorem free_nil (V : Nat) : free V [] = V := by
  unfold free
  rw [List.countP_eq_length.2 (fun v _ => by simp [und]), List.length_range]
theorem free_zero {V : Nat} {tr : List Int} (h : free V tr = 0) {x : Int} (hx : InR V x) : und tr x = false := by
  cases hu : und tr x with
  | false => rfl
  | true => have := free_snoc hx hu; omega
/-- The formula's literals are in range. -/
def Ran (V : Nat) (C : List (List Int)) : Prop := ∀ c ∈ C, ∀ y ∈ c, InR V y
/-- The implied literals with their clauses, one after the other. -/
def Steps (C : List (List Int)) (tr : List Int) : List Int → List Int → Prop
  | [], [] => True
  | x :: l, r :: rs => (∃ i : Nat, r = (i : Int) ∧ i < C.length ∧ hot tr (C.getD i []) = true ∧ (C.getD i []).find? (und tr) = some x) ∧ Steps C (tr ++ [x]) l rs
  | _, _ => False
theorem prop_spec {V : Nat} {C : List (List Int)} {A : List Int} (hR : Ran V C) : ∀ (n : Nat) (tr rs : List Int), free V tr < n → Cons tr → (∀ y ∈ tr, Der C A y) →
    ∃ l qs k, prop C n tr rs = (tr ++ l, rs ++ qs, k) ∧ Steps C tr l qs ∧ Cons (tr ++ l) ∧ (∀ y ∈ tr ++ l, Der C A y) ∧ (∀ y ∈ l, InR V y) ∧
      ((k = -1 ∧ Shut C (tr ++ l)) ∨ ∃ i : Nat, k = (i : Int) ∧ i < C.length ∧ hot (tr ++ l) (C.getD i []) = true ∧ ∀ y ∈ C.getD i [], -y ∈ tr ++ l)
  | 0, _, _, h, _, _ => absurd h (Nat.not_lt_zero _)
  | n + 1, tr, rs, hf, hc, hd => by
    unfold prop
    cases hi : C.findIdx? (hot tr) with
    | none => exact ⟨[], [], -1, by simp, trivial, by simpa using hc, by simpa using hd, by simp, .inl ⟨rfl, by simpa using findIdx_none hi⟩⟩
    | some i =>
      obtain ⟨h1, h2, h3⟩ := findIdx_some hi
      dsimp only
      cases hx : (C.getD i []).find? (und tr) with
      | none => exact ⟨[], [], (i : Int), by simp, trivial, by simpa using hc, by simpa using hd, by simp, .inr ⟨i, rfl, h1, by simpa using h3, by simpa using find_none hx ((hot_iff _ _).1 h3).1⟩⟩
      | some x =>
        dsimp only
        have hxc := List.mem_of_find?_eq_some hx
        have hxu := List.find?_some hx
        have hxr := hR _ h2 x hxc
        have hc' := hc.snoc hxr.1 hxu
        have hd' : ∀ y ∈ tr ++ [x], Der C A y := by
          intro y hy
          rcases List.mem_append.1 hy with hy | hy
          · exact hd y hy
          · rw [List.mem_singleton.1 hy]; exact der_step hd h2 h3 hx
        obtain ⟨l, qs, k, e, hs, g1, g2, g3, g4⟩ := prop_spec hR n (tr ++ [x]) (rs ++ [(i : Int)]) (by have := free_snoc hxr hxu; omega) hc' hd'
        refine ⟨x :: l, (i : Int) :: qs, k, by rw [e]; simp, ⟨⟨i, rfl, h1, h3, hx⟩, hs⟩, by simpa using g1, by simpa using g2, ?_, by simpa using g4⟩
        intro y hy
        rcases List.mem_cons.1 hy with rfl | hy
        · exact hxr
        · exact g3 y hy
/-- The assumptions, each once. -/
def assm (A : List Int) : List Int := uq A
def contraP (A : List Int) : Bool := A.any fun x => A.contains (-x)
theorem contra_false {A : List Int} (h : contraP A = false) : Cons A := by
  intro x hx hn
  have : contraP A = true := List.any_eq_true.2 ⟨x, hx, by simpa using hn⟩
  rw [this] at h; cases h
theorem cons_uq {A : List Int} (h : Cons A) : Cons (uq A) := fun x hx hn => h x ((mem_uq A x).1 hx) ((mem_uq A _).1 hn)
/-- Propagation: the trail, how much of it is assumed, the clauses of the rest, the conflict. -/
def propP (V : Nat) (C : List (List Int)) (A : List Int) : List Int × Nat × List Int × Int :=
  if contraP A = true then ([], 0, [], -2) else
    let r := prop C (V + 1) (uq A) []
    (r.1, (uq A).length, r.2.1, r.2.2)
theorem free_le (V : Nat) (tr : List Int) : free V tr ≤ V := by
  unfold free
  have := List.countP_le_length (p := fun v : Nat => und tr ((v : Int) + 1)) (l := List.range V)
  rwa [List.length_range] at this
theorem propP_spec {V : Nat} {C : List (List Int)} {A : List Int} (hR : Ran V C) (h : contraP A = false) :
    ∃ l qs k, propP V C A = (uq A ++ l, (uq A).length, qs, k) ∧ Steps C (uq A) l qs ∧ Cons (uq A ++ l) ∧ (∀ y ∈ uq A ++ l, Der C A y) ∧ (∀ y ∈ l, InR V y) ∧
      ((k = -1 ∧ Shut C (uq A ++ l)) ∨ ∃ i : Nat, k = (i : Int) ∧ i < C.length ∧ hot (uq A ++ l) (C.getD i []) = true ∧ ∀ y ∈ C.getD i [], -y ∈ uq A ++ l) := by
  obtain ⟨l, qs, k, e, h1⟩ := prop_spec (A := A) hR (V + 1) (uq A) [] (by have := free_le V (uq A); omega) (cons_uq (contra_false h)) (fun y hy => .ass y ((mem_uq A y).1 hy))
  refine ⟨l, qs, k, ?_, h1⟩
  unfold propP
  rw [h, if_neg (by decide), e]
  rfl
theorem propP_contra {V : Nat} {C : List (List Int)} {A : List Int} (h : contraP A = true) : propP V C A = ([], 0, [], -2) := by
  unfold propP; rw [if_pos h]
end Go.Proofs.Ythkemajekkilmaa
/- Unit propagation, plain: the counts of a clause's true and undetermined literals, step by step. -/
namespace Go.Proofs.Ythkemajekkilmaa
theorem countP_snoc {p q : Int → Bool} {x : Int} (hx : p x = false) (hq : q x = true) (h : ∀ y, y ≠ x → q y = p y) : ∀ {l : List Int}, l.Nodup → l.countP q = l.countP p + (if x ∈ l then 1 else 0)
  | [], _ => by simp
  | a :: l, hn => by
    have hn' := List.nodup_cons.1 hn
    have ih := countP_snoc hx hq h hn'.2
    rw [List.countP_cons, List.countP_cons, ih]
    by_cases e : a = x
    · subst e
      rw [hx, hq]
      simp [hn'.1]
    · rw [h a e]
      have e' : x ≠ a := fun h => e h.symm
      simp only [List.mem_cons, e', false_or]
      omega
theorem countP_drop {p q : Int → Bool} {x : Int} (hx : p x = true) (hq : q x = false) (h : ∀ y, y ≠ x → q y = p y) {l : List Int} (hn : l.Nodup) : l.countP q + (if x ∈ l then 1 else 0) = l.countP p :=
  (countP_snoc hq hx (fun y hy => (h y hy).symm) hn).symm
theorem sat_snoc {tr : List Int} {x : Int} (c : List Int) (hu : und tr x = true) : satN (tr ++ [x]) c = satN tr c + (if x ∈ c then 1 else 0) := by
  unfold satN
  rw [countP_snoc (p := fun y => tr.contains y) (x := x) (by simpa using ((und_iff tr x).1 hu).1) (by simp) (fun y hy => by simp [hy]) (nodup_uq c)]
  simp only [mem_uq]
theorem opn_snoc {tr : List Int} {x : Int} (c : List Int) (h0 : x ≠ 0) (hu : und tr x = true) : opnN (tr ++ [x]) c + (if x ∈ c then 1 else 0) + (if -x ∈ c then 1 else 0) = opnN tr c := by
  have hu' : und tr (-x) = true := by rw [und_iff] at *; rw [Int.neg_neg]; exact ⟨hu.2, hu.1⟩
  have h1 := countP_drop (p := und tr) (q := fun y => und tr y && !(y == -x)) (x := -x) hu' (by simp) (fun y hy => by simp [hy]) (nodup_uq c)
  have h2 := countP_drop (p := fun y => und tr y && !(y == -x)) (q := und (tr ++ [x])) (x := x) (by simp [hu]; omega) (by rw [und_snoc]; simp) (fun y hy => by
    rw [und_snoc, Bool.eq_iff_iff]
    simp only [Bool.and_eq_true, Bool.not_eq_true', beq_eq_false_iff_ne]
    constructor
    · rintro ⟨⟨a, b⟩, c⟩; exact ⟨a, fun e => c (by rw [e, Int.neg_neg])⟩
    · rintro ⟨a, c⟩; exact ⟨⟨a, hy⟩, fun e => c (by rw [← e, Int.neg_neg])⟩) (nodup_uq c)
  unfold opnN
  simp only [mem_uq] at h1 h2
  omega
/-- The value of a literal under a trail. -/
def valL (tr : List Int) (x : Int) : Int := if tr.contains x then 1 else if tr.contains (-x) then -1 else 0
theorem und_val {tr : List Int} {x : Int} : (valL tr x == 0) = und tr x := by
  unfold valL und
  cases tr.contains x <;> cases tr.contains (-x) <;> rfl
theorem val_neg {tr : List Int} (h : Cons tr) (x : Int) : valL tr (-x) = -valL tr x := by
  unfold valL
  rw [Int.neg_neg]
  by_cases h1 : x ∈ tr
  · have h2 := h x h1
    simp [h1, h2]
  · by_cases h2 : -x ∈ tr <;> simp [h1, h2]
/-- The values of the variables, behind the unused first cell. -/
def valsP (V : Nat) (tr : List Int) : List Int := (List.range (V + 1)).map fun (v : Nat) => if v = 0 then 0 else valL tr (v : Int)
theorem vals_len (V : Nat) (tr : List Int) : (valsP V tr).length = V + 1 := by simp [valsP]
theorem vals_get {V : Nat} {tr : List Int} {v : Nat} (h : v ≤ V) (h0 : v ≠ 0) : (valsP V tr)[v]? = some (valL tr (v : Int)) := by
  unfold valsP
  rw [List.getElem?_map, List.getElem?_range (by omega)]
  simp [h0]
theorem vals_nil (V : Nat) : valsP V [] = List.replicate (V + 1) 0 := by
  unfold valsP
  refine List.ext_getElem (by simp) fun i h1 h2 => ?_
  simp [valL]
theorem vals_pos {V : Nat} {tr : List Int} {v : Nat} (h0 : v ≠ 0) (hu : und tr (v : Int) = true) : (valsP V tr).set v 1 = valsP V (tr ++ [(v : Int)]) := by
  obtain ⟨h1, h2⟩ := (und_iff _ _).1 hu
  refine List.ext_getElem (by simp [valsP]) fun i g1 g2 => ?_
  rw [List.getElem_set]
  simp only [valsP, List.getElem_map, List.getElem_range]
  by_cases e : v = i
  · subst e; rw [if_pos rfl, if_neg h0]; simp [valL]
  · rw [if_neg e]
    by_cases e0 : i = 0
    · simp [e0]
    · rw [if_neg e0, if_neg e0]
      unfold valL
      have e1 : (i : Int) ≠ (v : Int) := by omega
      have e2 : -(i : Int) ≠ (v : Int) := by omega
      simp [e1, e2]
theorem vals_neg {V : Nat} {tr : List Int} {v : Nat} (h0 : v ≠ 0) (hu : und tr (-(v : Int)) = true) : (valsP V tr).set v (-1) = valsP V (tr ++ [-(v : Int)]) := by
  obtain ⟨h1, h2⟩ := (und_iff _ _).1 hu
  rw [Int.neg_neg] at h2
  refine List.ext_getElem (by simp [valsP]) fun i g1 g2 => ?_
  rw [List.getElem_set]
  simp only [valsP, List.getElem_map, List.getElem_range]
  by_cases e : v = i
  · subst e; rw [if_pos rfl, if_neg h0]
    unfold valL
    have e1 : (v : Int) ≠ -(v : Int) := by omega
    simp [h2, e1]
  · rw [if_neg e]
    by_cases e0 : i = 0
    · simp [e0]
    · rw [if_neg e0, if_neg e0]
      unfold valL
      have e1 : (i : Int) ≠ -(v : Int) := by omega
      have e2 : -(i : Int) ≠ -(v : Int) := by omega
      simp [e1, e2]
/-- The clauses with a literal. -/
def with_ (C : List (List Int)) (x : Int) : List Nat := (List.range C.length).filter fun i => (C.getD i []).contains x
theorem mem_with {C : List (List Int)} {x : Int} {i : Nat} : i ∈ with_ C x ↔ i < C.length ∧ x ∈ C.getD i [] := by
  simp [with_]
theorem nodup_with (C : List (List Int)) (x : Int) : (with_ C x).Nodup := List.Nodup.sublist (List.filter_sublist) List.nodup_range
/-- Cells that are counted up, or down. -/
def bump (d : Int) (l : List Int) (is : List Nat) : List Int := is.foldl (fun s i => s.set i (s.getD i 0 + d)) l
theorem bump_snoc (d : Int) (l : List Int) (is : List Nat) (i : Nat) : bump d l (is ++ [i]) = (bump d l is).set i ((bump d l is).getD i 0 + d) := by
  unfold bump; rw [List.foldl_append]; rfl
theorem bump_len (d : Int) (l : List Int) (is : List Nat) : (bump d l is).length = l.length := by
  refine snoc_ind (P := fun is => (bump d l is).length = l.length) rfl (fun is i ih => ?_) is
  rw [bump_snoc, List.length_set, ih]
theorem bump_get {d : Int} {l : List Int} {is : List Nat} (hn : is.Nodup) {j : Nat} (hj : j < l.length) : (bump d l is).getD j 0 = l.getD j 0 + (if j ∈ is then d else 0) := by
  revert hn
  refine snoc_ind (P := fun is => is.Nodup → (bump d l is).getD j 0 = l.getD j 0 + (if j ∈ is then d else 0)) (fun _ => by simp [bump]) (fun is i ih hn => ?_) is
  obtain ⟨h1, _, h3⟩ := List.nodup_append.1 hn
  have hni : i ∉ is := fun h => h3 i h i (by simp) rfl
  rw [bump_snoc, List.getD_eq_getElem?_getD, List.getElem?_set, bump_len]
  by_cases e : i = j
  · subst e
    rw [if_pos rfl, if_pos hj, ih h1, if_neg hni]
    simp
  · have e' : j ≠ i := fun h => e h.symm
    rw [if_neg e, ← List.getD_eq_getElem?_getD, ih h1]
    simp [e']
/-- The counts of all clauses. -/
def satsP (C : List (List Int)) (tr : List Int) : List Int := C.map fun c => (satN tr c : Int)
def opnsP (C : List (List Int)) (tr : List Int) : List Int := C.map fun c => (opnN tr c : Int)
theorem getD_map {f : List Int → Int} {C : List (List Int)} {j : Nat} (hj : j < C.length) : (C.map f).getD j 0 = f (C.getD j []) := by
  rw [List.getD_eq_getElem?_getD, List.getElem?_map, List.getD_eq_getElem?_getD, List.getElem?_eq_getElem hj]; rfl
theorem ext_getD {l m : List Int} (h : l.length = m.length) (hg : ∀ j, j < l.length → l.getD j 0 = m.getD j 0) : l = m := by
  refine List.ext_getElem h fun i h1 h2 => ?_
  have := hg i h1
  rw [List.getD_eq_getElem?_getD, List.getD_eq_getElem?_getD, List.getElem?_eq_getElem h1, List.getElem?_eq_getElem h2] at this
  exact this
theorem sats_step {C : List (List Int)} {tr : List Int} {x : Int} (hu : und tr x = true) : bump 1 (satsP C tr) (with_ C x) = satsP C (tr ++ [x]) := by
  refine ext_getD (by rw [bump_len]; simp [satsP]) fun j hj => ?_
  rw [bump_len] at hj
  have hjC : j < C.length := by simpa [satsP] using hj
  rw [bump_get (nodup_with C x) hj]
  unfold satsP
  rw [getD_map hjC, getD_map hjC, sat_snoc _ hu]
  by_cases h : x ∈ C.getD j []
  · rw [if_pos (mem_with.2 ⟨hjC, h⟩), if_pos h]; rfl
  · rw [if_neg (fun hh => h (mem_with.1 hh).2), if_neg h]; rfl
theorem opns_step {C : List (List Int)} {tr : List Int} {x : Int} (h0 : x ≠ 0) (hu : und tr x = true) : bump (-1) (bump (-1) (opnsP C tr) (with_ C x)) (with_ C (-x)) = opnsP C (tr ++ [x]) := by
  refine ext_getD (by rw [bump_len, bump_len]; simp [opnsP]) fun j hj => ?_
  rw [bump_len] at hj
  rw [bump_get (nodup_with C (-x)) hj]
  rw [bump_len] at hj
  have hjC : j < C.length := by simpa [opnsP] using hj
  rw [bump_get (nodup_with C x) hj]
  unfold opnsP
  rw [getD_map hjC, getD_map hjC]
  have key := opn_snoc (C.getD j []) h0 hu
  have e1 : (j ∈ with_ C x) = (x ∈ C.getD j []) := by rw [mem_with]; simp [hjC]
  have e2 : (j ∈ with_ C (-x)) = (-x ∈ C.getD j []) := by rw [mem_with]; simp [hjC]
  simp only [e1, e2]
  by_cases h1 : x ∈ C.getD j [] <;> by_cases h2 : -x ∈ C.getD j [] <;> simp only [h1, h2, if_true, if_false] at key ⊢ <;> omega
end Go.Proofs.Ythkemajekkilmaa
/- Memory: what every walk shares; rows of integers and of clauses. -/
namespace Go.Proofs.Ythkemajekkilmaa
open Go.RowKit
theorem grown_drew (w : World) (r : Option Nat) : w.grownBy w.drew r := ⟨rfl, rfl, rfl, Nat.le_refl _, fun _ _ _ => rfl⟩
theorem grown_drewN (w : World) (n : Nat) (r : Option Nat) : w.grownBy (w.drewN n) r := ⟨rfl, rfl, rfl, Nat.le_refl _, fun _ _ _ => rfl⟩
theorem grown_refl (w : World) (r : Option Nat) : w.grownBy w r := ⟨rfl, rfl, rfl, Nat.le_refl _, fun _ _ _ => rfl⟩
theorem info3 : (Try.prog.info? 3).map (fun i => (i.zero, i.size, i.bytes)) = some (some (.int .i64 0), 1, 8) := by kernel_rfl
theorem grown_set (w : World) (b o : Nat) (v : Value) : w.grownBy (w.setCell ⟨b, o, none⟩ v) (some b) :=
  ⟨rfl, rfl, rfl, by simp [World.setCell], fun k _ hk => Below.heap_setCell _ _ _ _ (fun e => hk (by rw [e]))⟩
theorem grown_own {w w1 : World} {r : Option Nat} (h : w.grownBy w1 none) {w2 : World} (h2 : w1.grownBy w2 r) (hr : ∀ k, r = some k → w.heap.size ≤ k) : w.grownBy w2 none :=
  ⟨h2.os.trans h.os, h2.tape.trans h.tape, h2.output.trans h.output, Nat.le_trans h.size h2.size, fun k hk _ => by
    rw [h2.block k (by have := h.size; omega) (fun e => by have := hr k e.symm; omega)]; exact h.block k hk (by simp)⟩
theorem own_shape {w : World} {B n size : Nat} {e : TypeId} {v : Value} {xs : List Value} (h : w.ownsRow B e size v n xs) : ∃ a c, v = .slice a n c := by
  rcases h.2 with ⟨hv, h0⟩ | ⟨g, cap, cur, rfl, _⟩
  · exact ⟨none, 0, by rw [hv, h0]⟩
  · exact ⟨_, _, rfl⟩
theorem lies_lt {w : World} {a : Addr} {v : Value} (h : w.cell? a = some v) : a.block < w.heap.size := by
  unfold World.cell? at h
  split at h
  · rename_i hb; exact (Array.getElem?_eq_some_iff.1 hb).1
  · cases h
/-- P holds of whatever world has the blocks from lo up to hi as they lie in w. -/
def Span (lo hi : Nat) (w : World) (P : World → Prop) : Prop := hi ≤ w.heap.size ∧ ∀ W : World, (∀ b, lo ≤ b → b < hi → W.heap[b]? = w.heap[b]?) → P W
theorem Span.here {lo hi : Nat} {w : World} {P : World → Prop} (h : Span lo hi w P) : P w := h.2 w fun _ _ _ => rfl
theorem Span.off {lo hi : Nat} {w w' : World} {P : World → Prop} {r : Option Nat} (h : Span lo hi w P) (hg : w.grownBy w' r) (hr : ∀ x, r = some x → x < lo ∨ hi ≤ x) : Span lo hi w' P := by
  refine ⟨Nat.le_trans h.1 hg.size, fun W hW => h.2 W fun b hl hh => ?_⟩
  rw [hW b hl hh]
  refine hg.block b (Nat.lt_of_lt_of_le hh h.1) fun e => ?_
  have := hr b e.symm
  omega
theorem Span.grown {lo hi : Nat} {w w' : World} {P : World → Prop} (h : Span lo hi w P) (hg : w.grownBy w' none) : Span lo hi w' P := h.off hg fun _ e => by cases e
theorem Span.wide {lo hi lo' hi' : Nat} {w : World} {P : World → Prop} (h : Span lo hi w P) (hl : lo' ≤ lo) (hh : hi ≤ hi') (hs : hi' ≤ w.heap.size) : Span lo' hi' w P :=
  ⟨hs, fun W hW => h.2 W fun b h1 h2 => hW b (by omega) (by omega)⟩
theorem Span.map {lo hi : Nat} {w : World} {P Q : World → Prop} (h : Span lo hi w P) (f : ∀ W, P W → Q W) : Span lo hi w Q := ⟨h.1, fun W hW => f W (h.2 W hW)⟩
theorem add_at (g j : Nat) : (⟨g, 0, none⟩ : Addr).add j = ⟨g, j, none⟩ := by unfold Addr.add; split <;> simp_all
theorem size_of_heap {w W : World} {b : Nat} (h : W.heap[b]? = w.heap[b]?) (hb : b < w.heap.size) : b < W.heap.size := by
  rw [Array.getElem?_eq_getElem hb] at h
  exact (Array.getElem?_eq_some_iff.1 h).1
theorem grown_frozen {w w' : World} {b : Nat} (h : w.grownBy w' none) (hb : b < w.heap.size) (o : Nat) : w'.frozen? ⟨b, o, none⟩ = w.frozen? ⟨b, o, none⟩ :=
  World.frozen?_of_block (a := ⟨b, o, none⟩) (h.block b hb (by simp))
theorem own_grown {w w' : World} {B : Nat} {e : TypeId} {k n : Nat} {v : Value} {xs : List Value} (h : w.ownsRow B e k v n xs) (hg : w.grownBy w' none) : w'.ownsRow B e k v n xs :=
  h.kept hg (by cases hv : v.ownBlock <;> simp)
theorem one_cells (w : World) (u0 u1 : Value) (s : TypeId) :
    w.heap.size < (w.alloc (.cells #[u0, u1] s)).heap.size ∧ (w.alloc (.cells #[u0, u1] s)).cell? ⟨w.heap.size, 0, none⟩ = some u0 ∧ (w.alloc (.cells #[u0, u1] s)).cell? ⟨w.heap.size, 1, none⟩ = some u1 ∧
    (w.alloc (.cells #[u0, u1] s)).frozen? ⟨w.heap.size, 0, none⟩ = false ∧ (w.alloc (.cells #[u0, u1] s)).frozen? ⟨w.heap.size, 1, none⟩ = false := by
  refine ⟨by simp, by go_simp, by go_simp, by go_simp, by go_simp⟩
theorem two_cells (w : World) (u0 u1 v0 v1 : Value) (s t : TypeId) :
    w.heap.size + 1 < ((w.alloc (.cells #[u0, u1] s)).alloc (.cells #[v0, v1] t)).heap.size ∧
    ((w.alloc (.cells #[u0, u1] s)).alloc (.cells #[v0, v1] t)).cell? ⟨w.heap.size, 0, none⟩ = some u0 ∧ ((w.alloc (.cells #[u0, u1] s)).alloc (.cells #[v0, v1] t)).cell? ⟨w.heap.size, 1, none⟩ = some u1 ∧
    ((w.alloc (.cells #[u0, u1] s)).alloc (.cells #[v0, v1] t)).cell? ⟨w.heap.size + 1, 0, none⟩ = some v0 ∧ ((w.alloc (.cells #[u0, u1] s)).alloc (.cells #[v0, v1] t)).cell? ⟨w.heap.size + 1, 1, none⟩ = some v1 ∧
    ((w.alloc (.cells #[u0, u1] s)).alloc (.cells #[v0, v1] t)).frozen? ⟨w.heap.size + 1, 0, none⟩ = false ∧ ((w.alloc (.cells #[u0, u1] s)).alloc (.cells #[v0, v1] t)).frozen? ⟨w.heap.size + 1, 1, none⟩ = false := by
  refine ⟨by simp, by go_simp, by go_simp, by go_simp, by go_simp, by go_simp, by go_simp⟩
abbrev intCells (l : List Int) : List Value := l.map fun (z : Int) => Value.int .i64 z
/-- A row of integers that is read: where it is empty, nothing is known of its place. -/
def IntsW (w : World) (a : Option Addr) (c : Nat) (zs : List Int) : Prop :=
  zs.length ≤ c ∧ (zs = [] ∨ ∃ b o, a = some ⟨b, o, none⟩ ∧ ∀ (j : Nat) (z : Int), zs[j]? = some z → w.cell? ⟨b, o + j, none⟩ = some (.int .i64 z))
theorem IntsW.grown {w w' : World} {a : Option Addr} {c : Nat} {zs : List Int} (h : IntsW w a c zs) (hg : w.grownBy w' none) : IntsW w' a c zs := by
  obtain ⟨hc, h | ⟨b, o, ha, hz⟩⟩ := h
  · exact ⟨hc, .inl h⟩
  · exact ⟨hc, .inr ⟨b, o, ha, fun j z hj => hg.cell (hz j z hj) (by simp)⟩⟩
theorem IntsW.at {w : World} {a : Option Addr} {c : Nat} {zs : List Int} (h : IntsW w a c zs) {i : Nat} {z : Int} (hz : zs[i]? = some z) : ∃ b o, a = some ⟨b, o, none⟩ ∧ w.cell? ⟨b, o + i, none⟩ = some (.int .i64 z) := by
  obtain ⟨_, h | ⟨b, o, ha, hc⟩⟩ := h
  · rw [h] at hz; simp at hz
  · exact ⟨b, o, ha, hc i z hz⟩
theorem intsW_nil (w : World) (a : Option Addr) (c : Nat) : IntsW w a c [] := ⟨Nat.zero_le _, .inl rfl⟩
/-- A row of integers that is read. -/
def Ints (w : World) (a : Option Addr) (c : Nat) (zs : List Int) : Prop :=
  zs.length ≤ c ∧ ((zs = [] ∧ a = none ∧ c = 0) ∨ ∃ b o, a = some ⟨b, o, none⟩ ∧ b < w.heap.size ∧ ∀ (j : Nat) (z : Int), zs[j]? = some z → w.cell? ⟨b, o + j, none⟩ = some (.int .i64 z))
theorem Ints.grown {w w' : World} {a : Option Addr} {c : Nat} {zs : List Int} (h : Ints w a c zs) (hg : w.grownBy w' none) : Ints w' a c zs := by
  obtain ⟨hc, h | ⟨b, o, ha, hb, hz⟩⟩ := h
  · exact ⟨hc, .inl h⟩
  · exact ⟨hc, .inr ⟨b, o, ha, Nat.lt_of_lt_of_le hb hg.size, fun j z hj => hg.cell (hz j z hj) (by simp)⟩⟩
theorem Ints.weak {w : World} {a : Option Addr} {c : Nat} {zs : List Int} (h : Ints w a c zs) : IntsW w a c zs := by
  obtain ⟨hc, h | ⟨b, o, ha, _, hz⟩⟩ := h
  · exact ⟨hc, .inl h.1⟩
  · exact ⟨hc, .inr ⟨b, o, ha, hz⟩⟩
theorem ints_nil (w : World) : Ints w none 0 [] := ⟨Nat.le_refl _, .inl ⟨rfl, rfl, rfl⟩⟩
theorem ints_span {w : World} {B : Nat} {v : Value} {l : List Int} (h : w.ownsRow B 3 1 v l.length (intCells l)) : ∃ a c, v = .slice a l.length c ∧ Span B w.heap.size w (fun W => Ints W a c l) := by
  have hc := @World.ownsRow.cells w B 3 1 v l.length _ h
  rcases h.2 with ⟨hv, h0⟩ | ⟨g, cap, cur, rfl, hb, hg, hnc, hcm, _⟩
  · have hl : l = [] := List.eq_nil_of_length_eq_zero h0
    subst hl
    exact ⟨none, 0, hv, Nat.le_refl _, fun W _ => ints_nil W⟩
  · have hlt := (Array.getElem?_eq_some_iff.1 hg).1
    refine ⟨_, _, rfl, Nat.le_refl _, fun W hW => ⟨hnc, .inr ⟨g, 0, rfl, size_of_heap (hW g hb hlt) hlt, fun j z hj => ?_⟩⟩⟩
    have := hc (g := g) rfl j (.int .i64 z) (by rw [intCells, List.getElem?_map, hj]; rfl)
    rw [add_at] at this
    rw [Nat.zero_add, World.cell?_of_block (hW g hb hlt)]; exact this
theorem own_ne {w : World} {B b : Nat} {e : TypeId} {size n : Nat} {v : Value} {xs : List Value} (h : w.ownsRow B e size v n xs) (hb : b < B) : v.ownBlock = none ∨ v.ownBlock ≠ some b := by
  cases hv : v.ownBlock with
  | none => exact .inl rfl
  | some k => have := (h.lt k hv).1; exact .inr (by simp; omega)

theorem list_ne {α : Type} {xs ys : List α} {i : Nat} {x y : α} (hx : xs[i]? = some x) (hy : ys[i]? = some y) (h : x ≠ y) : xs ≠ ys := by
  rintro rfl; rw [hx] at hy; cases hy; exact h rfl
theorem list_eq {α : Type} {xs ys : List α} {n : Nat} (hx : xs.length = n) (hy : ys.length = n) (h : ∀ j, j < n → xs[j]? = ys[j]?) : xs = ys := by
  apply List.ext_getElem?
  intro j
  by_cases hj : j < n
  · exact h j hj
  · rw [List.getElem?_eq_none (by omega), List.getElem?_eq_none (by omega)]
theorem agree_step {α : Type} {xs ys : List α} {i : Nat} (h : ∀ j, j < i → xs[j]? = ys[j]?) (hi : xs[i]? = ys[i]?) : ∀ j, j < i + 1 → xs[j]? = ys[j]? := by
  intro j hj
  by_cases hji : j < i
  · exact h j hji
  · have : j = i := by omega
    subst this; exact hi
/-- A row of clauses that is read. -/
def ClsW (w : World) (a : Option Addr) (c : Nat) (l : List (List Int)) : Prop :=
  l.length ≤ c ∧ (l = [] ∨ ∃ b o, a = some ⟨b, o, none⟩ ∧ ∀ (j : Nat) (z : List Int), l[j]? = some z → ∃ a' c', w.cell? ⟨b, o + j, none⟩ = some (.slice a' z.length c') ∧ IntsW w a' c' z)
theorem ClsW.grown {w w' : World} {a : Option Addr} {c : Nat} {l : List (List Int)} (h : ClsW w a c l) (hg : w.grownBy w' none) : ClsW w' a c l := by
  obtain ⟨h1, h | ⟨b, o, h2, h3⟩⟩ := h
  · exact ⟨h1, .inl h⟩
  · exact ⟨h1, .inr ⟨b, o, h2, fun j z hz => by obtain ⟨a', c', h4, h5⟩ := h3 j z hz; exact ⟨a', c', hg.cell h4 (by simp), h5.grown hg⟩⟩⟩
theorem ClsW.at {w : World} {a : Option Addr} {c : Nat} {l : List (List Int)} (h : ClsW w a c l) {i : Nat} {z : List Int} (hz : l[i]? = some z) : ∃ b o a' c', a = some ⟨b, o, none⟩ ∧ w.cell? ⟨b, o + i, none⟩ = some (.slice a' z.length c') ∧ IntsW w a' c' z := by
  obtain ⟨h1, h | ⟨b, o, h2, h3⟩⟩ := h
  · subst h; simp at hz
  · obtain ⟨a', c', h4, h5⟩ := h3 i z hz
    exact ⟨b, o, a', c', h2, h4, h5⟩
theorem clsW_nil (w : World) (a : Option Addr) (c : Nat) : ClsW w a c [] := ⟨Nat.zero_le _, .inl rfl⟩
/-- A formula as a value. -/
abbrev cnfV (v : Int) (a : Option Addr) (n c : Nat) : Value := .agg #[.int .i64 v, .slice a n c]

structure Off (M : Nat → Prop) (w w' : World) : Prop where
  os : w'.os = w.os
  tape : w'.tape = w.tape
  output : w'.output = w.output
  size : w.heap.size ≤ w'.heap.size
  block : ∀ k, k < w.heap.size → ¬ M k → w'.heap[k]? = w.heap[k]?
theorem Off.of {M : Nat → Prop} {w w' : World} {r : Option Nat} (h : w.grownBy w' r) (hr : ∀ k, r = some k → M k) : Off M w w' :=
  ⟨h.os, h.tape, h.output, h.size, fun k hk hm => h.block k hk (fun e => hm (hr k e.symm))⟩
theorem Off.trans {M N : Nat → Prop} {w w1 w' : World} (h : Off M w w1) (h2 : Off N w1 w') (hn : ∀ k, k < w.heap.size → N k → M k) : Off M w w' :=
  ⟨h2.os.trans h.os, h2.tape.trans h.tape, h2.output.trans h.output, Nat.le_trans h.size h2.size, fun k hk hm => (h2.block k (Nat.lt_of_lt_of_le hk h.size) (fun e => hm (hn k hk e))).trans (h.block k hk hm)⟩
theorem Off.mono {M N : Nat → Prop} {w w' : World} (h : Off M w w') (hn : ∀ k, k < w.heap.size → M k → N k) : Off N w w' := ⟨h.os, h.tape, h.output, h.size, fun k hk hm => h.block k hk (fun e => hm (hn k hk e))⟩
theorem Off.refl (M : Nat → Prop) (w : World) : Off M w w := ⟨rfl, rfl, rfl, Nat.le_refl _, fun _ _ _ => rfl⟩
theorem Off.grown {M : Nat → Prop} {w0 w w' : World} (h0 : w0.grownBy w none) (h : Off M w w') (hm : ∀ k, M k → w0.heap.size ≤ k) : w0.grownBy w' none :=
  ⟨h.os.trans h0.os, h.tape.trans h0.tape, h.output.trans h0.output, Nat.le_trans h0.size h.size, fun k hk _ => (h.block k (Nat.lt_of_lt_of_le hk h0.size) (fun e => by have := hm k e; omega)).trans (h0.block k hk (by simp))⟩
theorem Off.cell {M : Nat → Prop} {w w' : World} (h : Off M w w') {a : Addr} {v : Value} (hc : w.cell? a = some v) (hm : ¬ M a.block) : w'.cell? a = some v :=
  (World.cell?_of_block (h.block a.block (lies_lt hc) hm)).trans hc
theorem Off.frozen {M : Nat → Prop} {w w' : World} (h : Off M w w') {b : Nat} (hb : b < w.heap.size) (hm : ¬ M b) (o : Nat) : w'.frozen? ⟨b, o, none⟩ = w.frozen? ⟨b, o, none⟩ :=
  World.frozen?_of_block (a := ⟨b, o, none⟩) (h.block b hb hm)
theorem Off.row {M : Nat → Prop} {w w' : World} (h : Off M w w') {B n k : Nat} {e : TypeId} {v : Value} {xs : List Value} (hr : w.ownsRow B e k v n xs) (hm : ∀ b, v.ownBlock = some b → ¬ M b) : w'.ownsRow B e k v n xs := by
  refine ⟨hr.1, ?_⟩
  rcases hr.2 with h0 | ⟨g, cap, cur, e1, h1, h2, h3⟩
  · exact .inl h0
  · exact .inr ⟨g, cap, cur, e1, h1, (h.block g (Array.getElem?_eq_some_iff.1 h2).1 (hm g (by rw [e1]; rfl))).trans h2, h3⟩
theorem ne_at {p i j : Nat} (h : i ≠ j) : (⟨p, i, none⟩ : Addr) ≠ ⟨p, j, none⟩ := fun e => by injection e with _ e; exact h e
/-- A row of integers that is changed in place. -/
structure IArr (w : World) (b : Nat) (l : List Int) : Prop where
  cells : ∀ (j : Nat) (z : Int), l[j]? = some z → w.cell? ⟨b, j, none⟩ = some (.int .i64 z)
  fr : ∀ o, w.frozen? ⟨b, o, none⟩ = false
  low : b < w.heap.size
theorem IArr.off {M : Nat → Prop} {w w' : World} {b : Nat} {l : List Int} (h : IArr w b l) (ho : Off M w w') (hm : ¬ M b) : IArr w' b l :=
  ⟨fun j z hj => ho.cell (h.cells j z hj) hm, fun o => (ho.frozen h.low hm o).trans (h.fr o), Nat.lt_of_lt_of_le h.low ho.size⟩
theorem IArr.set {w : World} {b : Nat} {l : List Int} (h : IArr w b l) {j : Nat} {z0 : Int} (hj : l[j]? = some z0) (z : Int) : IArr (w.setCell ⟨b, j, none⟩ (.int .i64 z)) b (l.set j z) := by
  have hjl : j < l.length := (List.getElem?_eq_some_iff.1 hj).1
  refine ⟨fun k u hk => ?_, fun o => by rw [World.frozen?_setCell]; exact h.fr o, Nat.lt_of_lt_of_le h.low (grown_set w b j _).size⟩
  by_cases e : k = j
  · subst e
    rw [List.getElem?_set_self hjl] at hk
    cases hk
    exact World.cell?_setCell_same _ _ _ (h.cells k z0 hj)
  · rw [List.getElem?_set_ne (fun e2 => e e2.symm)] at hk
    rw [World.cell?_setCell_other _ _ _ _ (ne_at (fun e2 => e e2.symm))]
    exact h.cells k u hk
end Go.Proofs.Ythkemajekkilmaa
/- A set of integers in a map. -/
namespace Go.Proofs.Ythkemajekkilmaa
open Go.RowKit Go.Maps
def SetM (w : World) (b : Nat) (S : List Int) : Prop :=
  w.ownsMap (H := Unit) Try.prog 3 (plainElem Try.prog 4) b S.length (Maps.setOf (.lit (.bool true)) (S.map (Lit.int .i64))) ∧ ∀ x ∈ S, (Lit.int .i64 x).wf = true

theorem SetM.grown {w w' : World} {b : Nat} {S : List Int} {r : Option Nat} (h : SetM w b S) (hg : w.grownBy w' r) (hr : some b ≠ r) : SetM w' b S := ⟨h.1.kept hg hr, h.2⟩
theorem SetM.lt {w : World} {b : Nat} {S : List Int} (h : SetM w b S) : b < w.heap.size := h.1.lt
theorem SetM.new (w : World) : SetM (w.alloc (.map #[] 0)) w.heap.size [] := ⟨World.ownsMap_made w _ _ _, fun x hx => by cases hx⟩
theorem isKey_ints (S : List Int) : ∀ x ∈ S.map (Lit.int .i64), Go.WideAt.IsKeyLit x := fun x hx => by
  obtain ⟨y, _, rfl⟩ := List.mem_map.1 hx
  trivial

theorem atKey_setOf (u z : DataW Unit) (k : Int) : ∀ S : List Int, (Maps.setOf u (S.map (Lit.int .i64))).atKey (.int .i64 k) z = if k ∈ S then u else z := by
  intro S
  rw [← List.reverse_reverse S]
  generalize S.reverse = R
  induction R with
  | nil => simp [Maps.setOf, DataW.atKey]
  | cons x R ih =>
    rw [List.reverse_cons, List.map_append, List.map_singleton, Maps.setOf_snoc]
    by_cases hx : k = x
    · subst hx
      rw [Maps.atKey_put_same ((Maps.tidy_setOf u _ (isKey_ints _)).isMap) (by trivial : Go.WideAt.IsKeyLit (.int .i64 k))]
      simp
    · rw [Maps.atKey_put_other (by simpa using hx), ih]
      simp [hx]

theorem wf64 {k : Int} (h0 : -9223372036854775808 ≤ k) (h1 : k ≤ 9223372036854775807) : (Lit.int .i64 k).wf = true := WalkArith.wf_i64 (by omega)

theorem plainElem_bool_inv {v : Value} {z : DataW Unit × List MemPlace} (h : plainElem Try.prog 4 v = some z) : ∃ b, v = .bool b ∧ z = (.lit (.bool b), []) := by
  unfold plainElem at h
  rw [Try.underlying4] at h
  cases v <;> simp at h
  exact ⟨_, rfl, h.symm⟩

theorem zero4 (w : World) : (zeroValue 4).run Try.prog w = .ok (.bool false) w := by kernel_rfl

/-- The look-up. -/
theorem SetM.look {w : World} {b : Nat} {S : List Int} (h : SetM w b S) {k : Int} (hk : (Lit.int .i64 k).wf = true) : (Instr.lookup 60 (.map (some b)) (.int .i64 k) false).run Try.prog w = .ok (.bool (decide (k ∈ S))) w := by
  obtain ⟨v, ps, hr, hv⟩ := h.1.lookup (Maps.int_keyed Try.underlying3) Try.underlying60 (zero4 w) (plainElem_bool Try.underlying4 false) (Maps.keyOf_int_mk Try.underlying3 hk)
  rw [atKey_setOf] at hv
  obtain ⟨x, rfl, hx⟩ := plainElem_bool_inv hv
  rw [hr]
  by_cases hm : k ∈ S
  · rw [if_pos hm] at hx
    simp at hx
    simp [hm, hx.1]
  · rw [if_neg hm] at hx
    simp at hx
    simp [hm, hx.1]

/-- The store. -/
theorem SetM.store {w : World} {b : Nat} {S : List Int} (h : SetM w b S) (hl : S.length ≤ 1000000) {k : Int} (hk : (Lit.int .i64 k).wf = true) :
    ∃ w', (Instr.mapUpdate 60 (.map (some b)) (.int .i64 k) (.bool true)).run Try.prog w = .ok () w' ∧ SetM w' b (S ++ [k]) ∧ w.grownBy w' (some b) := by
  obtain ⟨w', hr, ho, ht⟩ := h.1.store (Maps.int_keyed Try.underlying3) Try.underlying60 (by unfold maxLen; omega) (Maps.keyOf_int_mk Try.underlying3 hk) (plainElem_bool Try.underlying4 true)
  refine ⟨w', hr, ⟨?_, ?_⟩, ht.grown⟩
  · rw [List.map_append, List.map_singleton, Maps.setOf_snoc, List.length_append]
    exact ho
  · intro x hx
    rcases List.mem_append.1 hx with hx | hx
    · exact h.2 x hx
    · rw [List.mem_singleton.1 hx]; exact hk

/-- The store, in a region that draws its order. -/
theorem ready_setM {ops : Array Oper} {o : Oper} {a : Act} {Q : Exit → Act → World → Prop} {K' : Act → World → Prop} {w : World} (m x : Operand) (hgd : o.guard = none)
    (ho : o.op = .mapUpdate 60 m x (.const (.bool true))) (b : Nat) (S : List Int) (hm : a.eval m = .map (some b)) (hown : SetM w b S) (hl : S.length ≤ 1000000) (k : Int) (hx : a.eval x = .int .i64 k) (hk : (Lit.int .i64 k).wf = true)
    (h : ∀ w', SetM w' b (S ++ [k]) → w.grownBy w' (some b) → K' (a.put o.dst undef) w') :
    if Region.wanted o (yielded ops a.tmps) = true then Oper.wp Try.prog o a w K' Q else K' (a.put o.dst undef) w := by
  obtain ⟨w', hr, h2, h3⟩ := hown.store hl hk
  have hw : Region.wanted o (yielded ops a.tmps) = true := by simp only [Region.wanted, hgd]
  rw [if_pos hw]
  unfold Oper.wp
  have hv : a.eval (.const (.bool true)) = .bool true := rfl
  simp [execOp, ho, hm, hx, hv, hr, Result.andThen]
  exact h w' h2 h3

/-- The store, elsewhere. -/
theorem wpList_setM {ops : Array Oper} {rest : List Oper} {o : Oper} {a : Act} {Q : Exit → Act → World → Prop} {w : World} (hg : o.guard = none) (m x : Operand) (hop : o.op = Op.mapUpdate 60 m x (.const (.bool true)))
    (b : Nat) (S : List Int) (hm : a.eval m = .map (some b)) (hown : SetM w b S) (hl : S.length ≤ 1000000) (k : Int) (hx : a.eval x = .int .i64 k) (hk : (Lit.int .i64 k).wf = true)
    (hK : ∀ w', SetM w' b (S ++ [k]) → w.grownBy w' (some b) → wpList Try.prog ops Q rest (a.put o.dst undef) w') : wpList Try.prog ops Q (o :: rest) a w := by
  refine wpList_plain hg fun K' hK' => ?_
  obtain ⟨w', hr, h2, h3⟩ := hown.store hl hk
  unfold Oper.wp
  have hv : a.eval (.const (.bool true)) = .bool true := rfl
  simp [execOp, hop, hm, hx, hv, hr, Result.andThen]
  exact hK' _ _ (hK w' h2 h3)
end Go.Proofs.Ythkemajekkilmaa
/- maps.Copy of sets. -/
namespace Go.Proofs.Ythkemajekkilmaa
open Go.RowKit Go.Maps
abbrev setD (S : List Int) : DataW Unit := Maps.setOf (.lit (.bool true)) (S.map (Lit.int .i64))
theorem has_setD (S : List Int) (x : Int) : Maps.has (setD S) (.int .i64 x) = decide (x ∈ S) := by
  rw [Maps.has_setOf _ _ _ (isKey_ints S)]
  rw [Bool.eq_iff_iff, List.any_eq_true, decide_eq_true_iff]
  constructor
  · rintro ⟨y, hy, hs⟩
    obtain ⟨z, hz, rfl⟩ := List.mem_map.1 hy
    have := Go.WideAt.sameKey_eq hs
    injection this with _ e
    rw [← e]; exact hz
  · intro hx
    exact ⟨_, List.mem_map.2 ⟨x, hx, rfl⟩, Go.WideAt.sameKey_self (by trivial)⟩
theorem wpList_setV {ops : Array Oper} {rest : List Oper} {o : Oper} {a : Act} {Q : Exit → Act → World → Prop} {w : World} (hg : o.guard = none) (m x v : Operand) (hop : o.op = Op.mapUpdate 60 m x v)
    (b : Nat) (S : List Int) (hm : a.eval m = .map (some b)) (hown : SetM w b S) (hl : S.length ≤ 1000000) (k : Int) (hx : a.eval x = .int .i64 k) (hv : a.eval v = .bool true) (hk : (Lit.int .i64 k).wf = true)
    (hK : ∀ w', SetM w' b (S ++ [k]) → w.grownBy w' (some b) → wpList Try.prog ops Q rest (a.put o.dst undef) w') : wpList Try.prog ops Q (o :: rest) a w := by
  refine wpList_plain hg fun K' hK' => ?_
  obtain ⟨w', hr, h2, h3⟩ := hown.store hl hk
  unfold Oper.wp
  simp [execOp, hop, hm, hx, hv, hr, Result.andThen]
  exact hK' _ _ (hK w' h2 h3)
theorem grown_past {w wr w1 : World} {r : Nat} {row : Option Nat} (h1 : w.grownBy wr row) (h2 : wr.grownBy w1 (some r)) (hr : w.heap.size ≤ r) : w.grownBy w1 row :=
  ⟨h2.os.trans h1.os, h2.tape.trans h1.tape, h2.output.trans h1.output, Nat.le_trans h1.size h2.size, fun k hk hm => (h2.block k (Nat.lt_of_lt_of_le hk h1.size) (fun e => by have := Option.some.inj e; omega)).trans (h1.block k hk hm)⟩
set_option maxHeartbeats 8000000 in
set_option maxRecDepth 100000 in
theorem copy_calls (S1 S2 : List Int) (b1 b2 : Nat) (w : World) (h1 : SetM w b1 S1) (h2 : SetM w b2 S2) (hne : b1 ≠ b2) (hl : S1.length + Maps.size (setD S2) ≤ 100000) :
    Calls Try.prog 37 #[.map (some b1), .map (some b2)] w fun e w' => e = .returned (.tuple #[]) ∧ (∃ S', SetM w' b1 S' ∧ (∀ x, x ∈ S' ↔ x ∈ S1 ∨ x ∈ S2) ∧ S'.length ≤ S1.length + Maps.size (setD S2)) ∧ w.grownBy w' (some b1) := by
  have HH := Lib.hid (And.intro h1 (And.intro h2 hne))
  clear h1 h2 hne
  go_enter Try.func37, Try.ntmps37
  go_wp2_with (at_range; refine wpList_range_own _ rfl _ 60 rfl 3 4 (Maps.int_keyed Try.underlying3) Try.underlying60 (plainElem Try.prog 4) b2 S2.length (setD S2) rfl HH.out.2.1.1 ?_)
  intro w0 hrg0 hg0 hs0
  go_wp2_with fail
  obtain ⟨r, hr⟩ : ∃ r, w.heap.size = r := ⟨_, rfl⟩
  rw [hr] at hrg0 ⊢
  have HR := Lib.hid (And.intro hr (And.intro hrg0 hg0))
  clear hrg0 hg0 hs0 hr
  go_loopg [4, 5] (Maps.size (setD S2)) (fun gk _s4 _s5 wr => ∃ (left : Lit → Bool) (S' : List Int), wr.ranges Try.prog 3 (plainElem Try.prog 4) b2 r S2.length (setD S2) left gk ∧ SetM wr b1 S' ∧ w.grownBy wr (some b1) ∧ (∀ x, left (.int .i64 x) = true → x ∈ S2) ∧ (∀ x ∈ S2, left (.int .i64 x) = true ∨ x ∈ S') ∧ (∀ x ∈ S1, x ∈ S') ∧ (∀ x ∈ S', x ∈ S1 ∨ x ∈ S2) ∧ S'.length + gk ≤ S1.length + Maps.size (setD S2) ∧ r ≠ b1)
  case atStart =>
    refine ⟨_, S1, HR.out.2.1, HH.out.1.grown HR.out.2.2 (by simp), World.grownBy.but HR.out.2.2 _, fun x hx => by rw [has_setD] at hx; exact of_decide_eq_true hx, fun x hx => .inl (by rw [has_setD]; exact decide_eq_true hx), fun x hx => hx, fun x hx => .inl hx, Nat.le_refl _, fun e => ?_⟩
    have := HH.out.1.lt
    have := HR.out.1
    omega
  case round =>
    obtain ⟨left, S', hrg, hset, hg, hl1, hl2, hs1, hs2, hlen, hrb⟩ := hrel
    have HI := Lib.hid (And.intro hset (And.intro hg (And.intro hl1 (And.intro hl2 (And.intro hs1 (And.intro hs2 (And.intro hlen hrb)))))))
    clear hset hg hl1 hl2 hs1 hs2 hlen hrb
    go_wp2_with (at_next; refine wpList_next_ranges (α := Int) (β := Value) _ rfl _ rfl 3 (Maps.int_keyed Try.underlying3) (plainElem Try.prog 4) (Value.int .i64) (fun v => v) (fun key kl hkey => by obtain ⟨x, rfl, _⟩ := Maps.keyOf_int_inv Try.underlying3 hkey; exact ⟨x, rfl⟩) (fun v y _ => ⟨v, rfl⟩) b2 r S2.length (setD S2) left gk rfl hrg ?_ ?_)
    · intro h0 hleft
      have HL := Lib.hid hleft
      clear hleft hrg
      go_wp2_with fail
      first
      | go_end0
      | refine bodyPost_ret (results_none rfl _ _ _) rfl ?_
      exact ⟨rfl, ⟨S', HI.out.1, fun x => ⟨HI.out.2.2.2.2.2.1 x, fun hx => hx.elim (HI.out.2.2.2.2.1 x) (fun h2 => (HI.out.2.2.2.1 x h2).resolve_left (by rw [HL.out]; decide))⟩, by have := HI.out.2.2.2.2.2.2.1; omega⟩, HI.out.2.1⟩
    · intro x c kl ya yb w1 cnt1 hkey hlk hv hat hrg1 hlt hg1 hs1 hen
      obtain ⟨bb, rfl, hy⟩ := plainElem_bool_inv hv
      obtain ⟨x', ex, rfl, hwx⟩ := Maps.keyOf_int_inv Try.underlying3 hkey
      cases ex
      have hx2 := HI.out.2.2.1 x hlk
      have hbt : bb = true := by
        have h1 := hat (.lit (.bool true))
        rw [atKey_setOf, if_pos hx2, (Prod.mk.inj hy).1] at h1
        simpa using h1.symm
      subst hbt
      have HX := Lib.hid (And.intro hx2 (And.intro hrg1 (And.intro hlt (And.intro hg1 hwx))))
      have HS1 := Lib.hid (HI.out.1.grown hg1 (by intro e; injection e with e; exact HI.out.2.2.2.2.2.2.2 e.symm))
      clear hkey hlk hv hat hrg1 hlt hg1 hs1 hy hx2 hwx hrg
      go_wp2_with (refine wpList_setV rfl _ _ _ rfl b1 S' rfl HS1.out (by have := HI.out.2.2.2.2.2.2.1; omega) x rfl rfl HX.out.2.2.2.2 ?_)
      intro w5 hset5 hgr5
      have HW := Lib.hid (And.intro hset5 (And.intro (HX.out.2.1.kept hgr5 (by intro e; injection e with e; exact HH.out.2.2 e.symm) (by intro e; injection e with e; exact HI.out.2.2.2.2.2.2.2 e)) (World.grownBy.trans (grown_past HI.out.2.1 HX.out.2.2.2.1 (by have := HR.out.1; omega)) hgr5)))
      clear hset5 hgr5 hen
      go_wp2_with fail
      go_roundg cnt1
      case measure => exact HX.out.2.2.1
      case rel =>
        refine ⟨_, S' ++ [x], HW.out.2.1, HW.out.1, HW.out.2.2, fun z hz => ?_, fun z hz => ?_, fun z hz => List.mem_append_left _ (HI.out.2.2.2.2.1 z hz), fun z hz => ?_, ?_, HI.out.2.2.2.2.2.2.2⟩
        · simp only [Bool.and_eq_true] at hz
          exact HI.out.2.2.1 z hz.1
        · rcases HI.out.2.2.2.1 z hz with h1 | h1
          · by_cases e : z = x
            · right; rw [e]; simp
            · left
              rw [h1, Maps.sameKey_ne (fun e2 => e (by injection e2))]; rfl
          · exact .inr (List.mem_append_left _ h1)
        · rcases List.mem_append.1 hz with h1 | h1
          · exact HI.out.2.2.2.2.2.1 z h1
          · rw [List.mem_singleton.1 h1]; exact .inr HX.out.1
        · have h1 := HI.out.2.2.2.2.2.2.1
          have h2 := HX.out.2.2.1
          rw [List.length_append, List.length_singleton]; omega
end Go.Proofs.Ythkemajekkilmaa
/- A map from integers to maps. -/
namespace Go.Proofs.Ythkemajekkilmaa
open Go.RowKit Go.Maps
/-- What a map in a map reads as: its block. -/
def R60 (v : Value) : Option (DataW Unit × List MemPlace) :=
  match v with
  | .map (some b) => some (.lit (.int .i64 (b : Int)), [])
  | .map none => some (.lit (.int .i64 (-1)), [])
  | _ => none
theorem R60_inv {v : Value} {z : DataW Unit × List MemPlace} (h : R60 v = some z) : (∃ b : Nat, v = .map (some b) ∧ z = (.lit (.int .i64 (b : Int)), [])) ∨ (v = .map none ∧ z = (.lit (.int .i64 (-1)), [])) := by
  unfold R60 at h
  split at h
  · exact .inl ⟨_, rfl, (Option.some.inj h).symm⟩
  · exact .inr ⟨rfl, (Option.some.inj h).symm⟩
  · cases h
/-- The entries, one put after the other. -/
def putAll (D : List (Int × Nat)) : DataW Unit := D.foldl (fun m p => m.put (.int .i64 p.1) (.lit (.int .i64 (p.2 : Int)))) (.map [])
theorem putAll_snoc (D : List (Int × Nat)) (p : Int × Nat) : putAll (D ++ [p]) = (putAll D).put (.int .i64 p.1) (.lit (.int .i64 (p.2 : Int))) := by
  unfold putAll; rw [List.foldl_append]; rfl
def MapB (w : World) (b : Nat) (D : List (Int × Nat)) : Prop := w.ownsMap (H := Unit) Try.prog 3 R60 b D.length (putAll D) ∧ ∀ p ∈ D, (Lit.int .i64 p.1).wf = true
theorem MapB.grown {w w' : World} {b : Nat} {D : List (Int × Nat)} {r : Option Nat} (h : MapB w b D) (hg : w.grownBy w' r) (hr : some b ≠ r) : MapB w' b D := ⟨h.1.kept hg hr, h.2⟩
theorem MapB.lt {w : World} {b : Nat} {D : List (Int × Nat)} (h : MapB w b D) : b < w.heap.size := h.1.lt
theorem MapB.new (w : World) : MapB (w.alloc (.map #[] 0)) w.heap.size [] := ⟨World.ownsMap_made w _ _ _, fun x hx => by cases hx⟩
theorem putAll_tidy (D : List (Int × Nat)) : Maps.Tidy (putAll D) := by
  unfold putAll
  have : ∀ (D : List (Int × Nat)) (m : DataW Unit), Maps.Tidy m → Maps.Tidy (D.foldl (fun m p => m.put (.int .i64 p.1) (.lit (.int .i64 (p.2 : Int)))) m) := by
    intro D
    induction D with
    | nil => exact fun m h => h
    | cons p D ih => exact fun m h => ih _ (h.put (by trivial) _)
  exact this D _ Maps.tidy_empty
/-- The last entry at a key. -/
def lastAt (D : List (Int × Nat)) (k : Int) : Int := match D.reverse.find? (fun p => p.1 == k) with | some p => (p.2 : Int) | none => -1
theorem lastAt_snoc (D : List (Int × Nat)) (p : Int × Nat) (k : Int) : lastAt (D ++ [p]) k = if p.1 = k then (p.2 : Int) else lastAt D k := by
  unfold lastAt
  rw [List.reverse_append, List.reverse_singleton, List.singleton_append, List.find?_cons]
  by_cases h : p.1 = k
  · rw [if_pos h, show (p.1 == k) = true from by simp [h]]
  · rw [if_neg h, show (p.1 == k) = false from by simp [h]]
theorem atKey_putAll (k : Int) : ∀ D : List (Int × Nat), (putAll D).atKey (.int .i64 k) (.lit (.int .i64 (-1))) = .lit (.int .i64 (lastAt D k)) := by
  intro D
  rw [← List.reverse_reverse D]
  generalize D.reverse = R
  induction R with
  | nil => simp [putAll, lastAt, DataW.atKey]
  | cons p R ih =>
    rw [List.reverse_cons, putAll_snoc, lastAt_snoc]
    by_cases hx : p.1 = k
    · subst hx
      rw [if_pos rfl, Maps.atKey_put_same ((putAll_tidy _).isMap) (by trivial : Go.WideAt.IsKeyLit (.int .i64 p.1))]
    · rw [if_neg hx, Maps.atKey_put_other (by simpa using fun e => hx e.symm), ih]
theorem zero60 (w : World) : (zeroValue 60).run Try.prog w = .ok (.map none) w := by kernel_rfl
theorem MapB.look {w : World} {b : Nat} {D : List (Int × Nat)} (h : MapB w b D) {k : Int} (hk : (Lit.int .i64 k).wf = true) {bk : Nat} (hl : lastAt D k = (bk : Int)) : (Instr.lookup 59 (.map (some b)) (.int .i64 k) false).run Try.prog w = .ok (.map (some bk)) w := by
  obtain ⟨v, ps, hr, hv⟩ := h.1.lookup (Maps.int_keyed Try.underlying3) Try.underlying59 (zero60 w) (show R60 (.map none) = some (.lit (.int .i64 (-1)), []) from rfl) (Maps.keyOf_int_mk Try.underlying3 hk)
  rw [atKey_putAll, hl] at hv
  rw [hr]
  rcases R60_inv hv with ⟨b', rfl, e⟩ | ⟨rfl, e⟩
  · have e1 := (Prod.mk.inj e).1
    injection e1 with e1
    injection e1 with _ e1
    have : b' = bk := by omega
    rw [this]
  · have e1 := (Prod.mk.inj e).1
    injection e1 with e1
    injection e1 with _ e1
    omega
theorem MapB.store {w : World} {b : Nat} {D : List (Int × Nat)} (h : MapB w b D) (hl : D.length ≤ 1000000) {k : Int} (hk : (Lit.int .i64 k).wf = true) (bk : Nat) :
    ∃ w', (Instr.mapUpdate 59 (.map (some b)) (.int .i64 k) (.map (some bk))).run Try.prog w = .ok () w' ∧ MapB w' b (D ++ [(k, bk)]) ∧ w.grownBy w' (some b) := by
  obtain ⟨w', hr, ho, ht⟩ := h.1.store (Maps.int_keyed Try.underlying3) Try.underlying59 (by unfold maxLen; omega) (Maps.keyOf_int_mk Try.underlying3 hk) (show R60 (.map (some bk)) = some (.lit (.int .i64 (bk : Int)), []) from rfl)
  refine ⟨w', hr, ⟨?_, ?_⟩, ht.grown⟩
  · rw [putAll_snoc, List.length_append]
    exact ho
  · intro p hp
    rcases List.mem_append.1 hp with hp | hp
    · exact h.2 p hp
    · rw [List.mem_singleton.1 hp]; exact hk
theorem wpList_mapB {ops : Array Oper} {rest : List Oper} {o : Oper} {a : Act} {Q : Exit → Act → World → Prop} {w : World} (hg : o.guard = none) (m x v : Operand) (hop : o.op = Op.mapUpdate 59 m x v)
    (b : Nat) (D : List (Int × Nat)) (hm : a.eval m = .map (some b)) (hown : MapB w b D) (hl : D.length ≤ 1000000) (k : Int) (hx : a.eval x = .int .i64 k) (bk : Nat) (hv : a.eval v = .map (some bk)) (hk : (Lit.int .i64 k).wf = true)
    (hK : ∀ w', MapB w' b (D ++ [(k, bk)]) → w.grownBy w' (some b) → wpList Try.prog ops Q rest (a.put o.dst undef) w') : wpList Try.prog ops Q (o :: rest) a w := by
  refine wpList_plain hg fun K' hK' => ?_
  obtain ⟨w', hr, h2, h3⟩ := hown.store hl hk bk
  unfold Oper.wp
  simp [execOp, hop, hm, hx, hv, hr, Result.andThen]
  exact hK' _ _ (hK w' h2 h3)
end Go.Proofs.Ythkemajekkilmaa
/- A heap of integers, plain: sifting up and down. -/
namespace Go.Proofs.Ythkemajekkilmaa
/-- An element of a list of integers. -/
def at_ (l : List Int) (k : Nat) : Int := l.getD k 0
def swp (l : List Int) (i j : Nat) : List Int := (l.set i (at_ l j)).set j (at_ l i)
theorem at_set {l : List Int} {i : Nat} (hi : i < l.length) (x : Int) (k : Nat) : at_ (l.set i x) k = if k = i then x else at_ l k := by
  unfold at_
  rw [List.getD_eq_getElem?_getD, List.getElem?_set]
  by_cases e : i = k
  · subst e; simp [hi]
  · have e' : k ≠ i := fun h => e h.symm
    rw [if_neg e, if_neg e', ← List.getD_eq_getElem?_getD]
theorem at_some {l : List Int} {k : Nat} (h : k < l.length) : l[k]? = some (at_ l k) := by
  unfold at_; rw [List.getD_eq_getElem?_getD, List.getElem?_eq_getElem h]; rfl
theorem swp_len (l : List Int) (i j : Nat) : (swp l i j).length = l.length := by simp [swp]
theorem at_swp {l : List Int} {i j : Nat} (hi : i < l.length) (hj : j < l.length) (k : Nat) : at_ (swp l i j) k = if k = j then at_ l i else if k = i then at_ l j else at_ l k := by
  unfold swp
  rw [at_set (by simpa using hj), at_set hi]
theorem set_perm : ∀ {l : List Int} {i : Nat} (_ : i < l.length) (x : Int), (x :: l).Perm (at_ l i :: l.set i x)
  | a :: l, 0, _, x => by simp only [at_, List.getD_cons_zero, List.set_cons_zero]; exact .swap ..
  | a :: l, i + 1, h, x => by
    have ih := set_perm (l := l) (i := i) (by simpa using h) x
    have e : at_ (a :: l) (i + 1) = at_ l i := by simp [at_]
    rw [e, List.set_cons_succ]
    exact (List.Perm.swap ..).trans ((ih.cons a).trans (.swap ..))
theorem swp_perm {l : List Int} {i j : Nat} (hi : i < l.length) (hj : j < l.length) : (swp l i j).Perm l := by
  unfold swp
  have h1 := set_perm hi (at_ l j)
  have h2 := set_perm (l := l.set i (at_ l j)) (i := j) (by simpa using hj) (at_ l i)
  have e : at_ (l.set i (at_ l j)) j = at_ l j := by
    rw [at_set hi]; split <;> rename_i h
    · rfl
    · rfl
  rw [e] at h2
  have h3 := (h1.symm.cons (at_ l j)).trans ((List.Perm.swap ..).trans (((List.Perm.refl _).cons _)))
  have h4 : (at_ l j :: (l.set i (at_ l j)).set j (at_ l i)).Perm (at_ l j :: l) := h2.symm.trans h1.symm
  exact (List.perm_cons _).1 h4
/-- The parent's is not greater. -/
def Heap (n : Nat) (l : List Int) : Prop := ∀ k, 0 < k → k < n → at_ l ((k - 1) / 2) ≤ at_ l k
/-- A heap but for the element at j, which may be too small. -/
def UpI (l : List Int) (j : Nat) : Prop :=
  (∀ k, 0 < k → k < l.length → k ≠ j → at_ l ((k - 1) / 2) ≤ at_ l k) ∧ ∀ k, 0 < k → k < l.length → (k - 1) / 2 = j → 0 < j → at_ l ((j - 1) / 2) ≤ at_ l k
theorem up_push {l : List Int} (h : Heap l.length l) (x : Int) : UpI (l ++ [x]) l.length := by
  have e : ∀ k, k < l.length → at_ (l ++ [x]) k = at_ l k := fun k hk => by unfold at_; rw [List.getD_eq_getElem?_getD, List.getElem?_append_left hk, ← List.getD_eq_getElem?_getD]
  constructor
  · intro k h0 hk hne
    have hk' : k < l.length := by simp at hk; omega
    rw [e _ (by omega), e _ hk']
    exact h k h0 hk'
  · intro k h0 hk hp _
    simp at hk; omega
theorem up_stop {l : List Int} {j : Nat} (h : UpI l j) (hs : j = 0 ∨ at_ l ((j - 1) / 2) ≤ at_ l j) : Heap l.length l := by
  intro k h0 hk
  by_cases e : k = j
  · subst e
    rcases hs with hs | hs
    · omega
    · exact hs
  · exact h.1 k h0 hk e
theorem up_step {l : List Int} {j i : Nat} (h : UpI l j) (hj : j < l.length) (h0 : 0 < j) (hi : (j - 1) / 2 = i) (hlt : at_ l j < at_ l i) : UpI (swp l i j) i := by
  have hil : i < l.length := by omega
  have hne : i ≠ j := by omega
  have a := at_swp (l := l) hil hj
  constructor
  · intro k k0 hk hki
    rw [swp_len] at hk
    rw [a, a]
    by_cases e1 : k = j
    · subst e1
      rw [hi, if_neg hne, if_pos rfl, if_pos rfl]; omega
    · rw [if_neg e1, if_neg hki]
      by_cases e2 : (k - 1) / 2 = j
      · rw [if_pos e2]
        have := h.2 k k0 hk e2 h0
        rwa [hi] at this
      · rw [if_neg e2]
        have := h.1 k k0 hk e1
        by_cases e3 : (k - 1) / 2 = i
        · rw [if_pos e3]; rw [e3] at this; omega
        · rw [if_neg e3]; exact this
  · intro k k0 hk hki hi0
    rw [swp_len] at hk
    have h1 := h.1 i hi0 hil hne
    rw [a, a, if_neg (by omega : (i - 1) / 2 ≠ j), if_neg (by omega : (i - 1) / 2 ≠ i)]
    by_cases e1 : k = j
    · rw [if_pos e1]; exact h1
    · rw [if_neg e1, if_neg (by omega : k ≠ i)]
      have := h.1 k k0 hk e1
      rw [hki] at this
      omega
/-- A heap of the first n but for the element at i, which may be too great. -/
def DnI (n : Nat) (l : List Int) (i : Nat) : Prop :=
  (∀ k, 0 < k → k < n → (k - 1) / 2 ≠ i → at_ l ((k - 1) / 2) ≤ at_ l k) ∧ ∀ k, 0 < k → k < n → (k - 1) / 2 = i → 0 < i → at_ l ((i - 1) / 2) ≤ at_ l k
theorem dn_stop {n : Nat} {l : List Int} {i : Nat} (h : DnI n l i) (h1 : 2 * i + 1 < n → at_ l i ≤ at_ l (2 * i + 1)) (h2 : 2 * i + 2 < n → at_ l i ≤ at_ l (2 * i + 2)) : Heap n l := by
  intro k h0 hk
  by_cases e : (k - 1) / 2 = i
  · rcases (by omega : k = 2 * i + 1 ∨ k = 2 * i + 2) with rfl | rfl
    · rw [e]; exact h1 hk
    · rw [e]; exact h2 hk
  · exact h.1 k h0 hk e
theorem dn_step {n : Nat} {l : List Int} {i j : Nat} (h : DnI n l i) (hn : n ≤ l.length) (hj : j < n) (hji : j = 2 * i + 1 ∨ j = 2 * i + 2) (h1 : at_ l j ≤ at_ l (2 * i + 1)) (h2 : 2 * i + 2 < n → at_ l j ≤ at_ l (2 * i + 2)) (hlt : at_ l j < at_ l i) : DnI n (swp l i j) j := by
  have hil : i < l.length := by omega
  have hjl : j < l.length := by omega
  have hne : i ≠ j := by omega
  have a := at_swp (l := l) hil hjl
  constructor
  · intro k k0 hk hkj
    rw [a, a, if_neg hkj]
    by_cases e1 : k = j
    · subst e1
      rw [if_pos rfl, if_pos (by omega)]; omega
    · rw [if_neg e1]
      by_cases e2 : (k - 1) / 2 = i
      · rw [if_pos e2, if_neg (by omega : k ≠ i)]
        rcases (by omega : k = 2 * i + 1 ∨ k = 2 * i + 2) with rfl | rfl
        · exact h1
        · exact h2 hk
      · rw [if_neg e2]
        by_cases e3 : k = i
        · rw [if_pos e3]; subst e3
          exact h.2 j (by omega) hj (by omega) k0
        · rw [if_neg e3]; exact h.1 k k0 hk e2
  · intro k k0 hk hkj hj0
    have e : (j - 1) / 2 = i := by omega
    rw [a, a, e, if_neg hne, if_pos rfl, if_neg (by omega : k ≠ j), if_neg (by omega : k ≠ i)]
    have := h.1 k k0 hk (by omega)
    rwa [hkj] at this
theorem heap_min {l : List Int} {n : Nat} (h : Heap n l) : ∀ k, k < n → at_ l 0 ≤ at_ l k := by
  intro k
  induction k using Nat.strongRecOn with
  | _ k ih =>
    intro hk
    by_cases e : k = 0
    · subst e; omega
    · have h1 := h k (by omega) hk
      have h2 := ih ((k - 1) / 2) (by omega) (by omega)
      omega
theorem dn_first {l : List Int} {n : Nat} (h : Heap l.length l) (hn : l.length = n + 1) : DnI n (swp l 0 n) 0 := by
  have a := at_swp (l := l) (i := 0) (j := n) (by omega) (by omega)
  constructor
  · intro k k0 hk hne
    rw [a, a, if_neg (by omega), if_neg hne, if_neg (by omega : k ≠ n), if_neg (by omega : k ≠ 0)]
    exact h k k0 (by omega)
  · intro k _ _ _ h0; omega
theorem heap_take {n : Nat} {l : List Int} (h : Heap n l) (hn : n ≤ l.length) : Heap (l.take n).length (l.take n) := by
  intro k k0 hk
  have hk' : k < n := by simp at hk; omega
  have e : ∀ m, m < n → at_ (l.take n) m = at_ l m := fun m hm => by unfold at_; rw [List.getD_eq_getElem?_getD, List.getElem?_take_of_lt hm, ← List.getD_eq_getElem?_getD]
  rw [e _ (by omega), e _ hk']
  exact h k k0 hk'
theorem take_last {l : List Int} {n : Nat} (h : l.length = n + 1) : l = l.take n ++ [at_ l n] := by
  have := List.take_succ_eq_append_getElem (l := l) (i := n) (by omega)
  rw [← h, List.take_length] at this
  unfold at_
  rw [List.getD_eq_getElem?_getD, List.getElem?_eq_getElem (by omega)]
  exact this
end Go.Proofs.Ythkemajekkilmaa
/- The queue's own methods. -/
namespace Go.Proofs.Ythkemajekkilmaa
open Go.RowKit
theorem len_calls (a : Option Addr) (n c : Nat) (w : World) : Calls Try.prog 78 #[.slice a n c] w fun e w' => e = .returned (.int .i64 (n : Int)) ∧ w' = w := by
  go_enter Try.func78, Try.ntmps78
  go_wp2
  go_ret
  exact ⟨rfl, rfl⟩
/-- A row of integers of one's own. -/
abbrev IRow (B : Nat) (w : World) (a : Option Addr) (c : Nat) (l : List Int) : Prop := w.ownsRow B 3 1 (.slice a l.length c) l.length (intCells l)
theorem irow_head {B : Nat} {w : World} {a : Option Addr} {c : Nat} {l : List Int} (h : IRow B w a c l) (hl : 0 < l.length) : ∃ g, a = some ⟨g, 0, none⟩ ∧ B ≤ g ∧ g < w.heap.size ∧ l.length ≤ c := by
  rcases h.2 with ⟨_, h0⟩ | ⟨g, cap, cur, e, hb, hg, hnc, _⟩
  · omega
  · injection e with e1 _ e3
    subst e1 e3
    exact ⟨g, rfl, hb, (Array.getElem?_eq_some_iff.1 hg).1, hnc⟩
theorem irow_cell {B g : Nat} {w : World} {c : Nat} {l : List Int} (h : IRow B w (some ⟨g, 0, none⟩) c l) {i : Nat} (hi : i < l.length) : w.cell? ⟨g, i, none⟩ = some (.int .i64 (at_ l i)) := by
  have hc := @World.ownsRow.cells w B 3 1 (.slice (some ⟨g, 0, none⟩) l.length c) l.length _ h (g := g) rfl i (.int .i64 (at_ l i)) (by rw [intCells, List.getElem?_map, at_some hi]; rfl)
  rwa [add_at] at hc
theorem irow_set {B g : Nat} {w : World} {c : Nat} {l : List Int} (h : IRow B w (some ⟨g, 0, none⟩) c l) (i : Nat) (z : Int) : IRow B (w.setCell ⟨g, i, none⟩ (.int .i64 z)) (some ⟨g, 0, none⟩) c (l.set i z) := by
  have := (World.ownsRow.stored h i (.int .i64 z)).1
  unfold IRow
  rw [List.length_set, intCells, List.map_set]
  exact this
theorem less_calls (B : Nat) (a : Option Addr) (c : Nat) (l : List Int) (w : World) (h : IRow B w a c l) (i j n : Nat) (hn : l.length = n) (hi : i < n) (hj : j < n) (hm : n ≤ 100000) :
    Calls Try.prog 79 #[.slice a n c, .int .i64 (i : Int), .int .i64 (j : Int)] w fun e w' => e = .returned (.bool (decide (at_ l i < at_ l j))) ∧ ∃ q, w' = w.drewN q := by
  obtain ⟨g, rfl, _, _, hc⟩ := irow_head h (by omega)
  have c1 := irow_cell h (i := i) (by omega)
  have c2 := irow_cell h (i := j) (by omega)
  obtain ⟨x, hx⟩ : ∃ x, at_ l i = x := ⟨_, rfl⟩
  obtain ⟨y, hy⟩ : ∃ y, at_ l j = y := ⟨_, rfl⟩
  rw [hx] at c1 ⊢
  rw [hy] at c2 ⊢
  clear hx hy h hn
  have hi1 : (i : Int) < (n : Int) := by omega
  have hj1 : (j : Int) < (n : Int) := by omega
  go_enter Try.func79, Try.ntmps79
  go_wp2_with fail
  go_quiet (fail)
  go_wp2
  go_ret
  exact ⟨rfl, _, rfl⟩
set_option maxHeartbeats 4000000 in
theorem swap_calls (B g c : Nat) (l : List Int) (w : World) (h : IRow B w (some ⟨g, 0, none⟩) c l) (i j n : Nat) (hn : l.length = n) (hi : i < n) (hj : j < n) (_hm : n ≤ 100000) (hij : i ≠ j) :
    Calls Try.prog 80 #[.slice (some ⟨g, 0, none⟩) n c, .int .i64 (i : Int), .int .i64 (j : Int)] w fun e w' => e = .returned (.tuple #[]) ∧ IRow B w' (some ⟨g, 0, none⟩) c (swp l i j) ∧ w.grownBy w' (some g) := by
  have c1 := irow_cell h (i := i) (by omega)
  have c2 := irow_cell h (i := j) (by omega)
  have f1 := World.ownsRow.frozenAt h i
  have f2 := World.ownsRow.frozenAt h j
  obtain ⟨x, hx⟩ : ∃ x, at_ l i = x := ⟨_, rfl⟩
  obtain ⟨y, hy⟩ : ∃ y, at_ l j = y := ⟨_, rfl⟩
  have HX := Lib.hid (And.intro hx (And.intro hy h))
  rw [hx] at c1
  rw [hy] at c2
  clear hx hy h hn
  have hi1 : (i : Int) < (n : Int) := by omega
  have hj1 : (j : Int) < (n : Int) := by omega
  go_enter Try.func80, Try.ntmps80
  go_region
  go_end0
  have h1 := irow_set (irow_set HX.out.2.2 i y) j x
  refine ⟨rfl, own_grown (show IRow B _ _ _ (swp l i j) by unfold swp; rw [HX.out.1, HX.out.2.1]; exact h1) (grown_drew _ _), ?_⟩
  exact ((grown_set _ _ _ _).trans (grown_set _ _ _ _)).trans (grown_drew _ _)
set_option maxHeartbeats 4000000 in
theorem swap0_calls (B g c : Nat) (l : List Int) (w : World) (h : IRow B w (some ⟨g, 0, none⟩) c l) (hn : l.length = 1) :
    Calls Try.prog 80 #[.slice (some ⟨g, 0, none⟩) 1 c, .int .i64 0, .int .i64 0] w fun e w' => e = .returned (.tuple #[]) ∧ IRow B w' (some ⟨g, 0, none⟩) c l ∧ w.grownBy w' (some g) := by
  have c1 := irow_cell h (i := 0) (by omega)
  have f1 := World.ownsRow.frozenAt h 0
  obtain ⟨x, hx⟩ : ∃ x, at_ l 0 = x := ⟨_, rfl⟩
  have HX := Lib.hid (And.intro hx (And.intro h hn))
  rw [hx] at c1
  clear hx h hn
  go_enter Try.func80, Try.ntmps80
  go_region
  go_end0
  have h1 := irow_set (irow_set HX.out.2.1 0 x) 0 x
  have e : (l.set 0 x).set 0 x = l := by
    obtain ⟨a, rfl⟩ := List.length_eq_one_iff.1 HX.out.2.2
    have := HX.out.1
    simp only [at_, List.getD_cons_zero] at this
    simp [this]
  rw [e] at h1
  refine ⟨rfl, own_grown h1 (grown_drew _ _), ?_⟩
  exact ((grown_set _ _ _ _).trans (grown_set _ _ _ _)).trans (grown_drew _ _)
/-- The last is taken. -/
theorem pop_calls (p o g n c : Nat) (x : Int) (w : World) (h0 : w.cell? ⟨p, o, none⟩ = some (.slice (some ⟨g, 0, none⟩) (n + 1) c)) (f0 : w.frozen? ⟨p, o, none⟩ = false) (hc : n + 1 ≤ c) (h1 : w.cell? ⟨g, n, none⟩ = some (.int .i64 x)) (hm : n ≤ 100000) :
    Calls Try.prog 81 #[.pointer (some ⟨p, o, none⟩)] w fun e w' => e = .returned (.iface 3 (.int .i64 x)) ∧ w' = w.setCell ⟨p, o, none⟩ (.slice (some ⟨g, 0, none⟩) n c) := by
  have e1 : IntKind.i64.wrap ((n : Int) + 1 - 1) = (n : Int) := by rw [IntWalk.i64_in _ (by omega)]; omega
  go_enter Try.func81, Try.ntmps81
  go_wp2
  go_ret
  exact ⟨rfl, rfl⟩
theorem assert_int (x : Int) (w : World) : (Instr.typeAssert (.iface 3 (.int .i64 x)) 20 3 true).run Try.prog w = .ok (.tuple #[.int .i64 x, .bool true]) w := by kernel_rfl
theorem push_calls (B p o : Nat) (a : Option Addr) (c : Nat) (l : List Int) (x : Int) (w : World) (h0 : w.cell? ⟨p, o, none⟩ = some (.slice a l.length c)) (f0 : w.frozen? ⟨p, o, none⟩ = false) (hl : IRow B w a c l) (hB : B ≤ w.heap.size) (hm : l.length ≤ 100000) (hpa : (Value.slice a l.length c).ownBlock ≠ some p) :
    Calls Try.prog 82 #[.pointer (some ⟨p, o, none⟩), .iface 3 (.int .i64 x)] w fun e w' => e = .returned (.tuple #[]) ∧ ∃ a' c' w1, IRow B w1 a' c' (l ++ [x]) ∧ w' = w1.setCell ⟨p, o, none⟩ (.slice a' (l.length + 1) c') ∧ w.grownBy w1 (Value.slice a l.length c).ownBlock ∧ ((Value.slice a' (l.length + 1) c').ownBlock = (Value.slice a l.length c).ownBlock ∨ ∃ b, (Value.slice a' (l.length + 1) c').ownBlock = some b ∧ w.heap.size ≤ b) := by
  obtain ⟨n, hn⟩ : ∃ n, l.length = n := ⟨_, rfl⟩
  have HL := Lib.hid (And.intro hl (And.intro hB hpa))
  obtain ⟨i0, hi0, hz0, hz1, hz2⟩ := info_parts info3
  have hta := assert_int x
  have hlt := lies_lt h0
  have HO := Lib.hid (show w.ownsRow B 3 1 (.slice a n c) n (intCells l) from by have := hl; unfold IRow at this; rw [hn] at this; exact this)
  have hf2 : (w.alloc (.cells #[.int .i64 x] 3)).frozen? ⟨p, o, none⟩ = false := by go_simp
  have HN := Lib.hid hn
  rw [hn] at h0 hm hpa ⊢
  clear hl hB hn
  go_enter Try.func82, Try.ntmps82
  go_wp2_with (at_builtin; refine wpList_append_own_at _ rfl _ _ 53 rfl B 3 i0 (.int .i64 0) 1 8 Try.underlying53 hi0 hz0 hz1 hz2 rfl (by decide) _ n (intCells l) rfl (HO.out.alloc _) ⟨w.heap.size, 0, none⟩ 1 1 [.int .i64 x] rfl rfl (cell_one_new _ _ _) (fun u hu => by simp at hu; subst hu; rfl) (by unfold maxLen; omega) (by omega) (by have := HL.out.2.1; simp; omega) ?_)
  intro v' w7 hown' hgrow7 _ hat7
  obtain ⟨a', c', rfl⟩ := own_shape hown'
  have hg8 : w.grownBy w7 (Value.slice a n c).ownBlock := (World.grownBy_alloc w _ _).trans hgrow7
  have c7 := hg8.cell h0 (fun e => hpa e.symm)
  have f7 : w7.frozen? ⟨p, o, none⟩ = false := (World.frozen?_of_block (a := ⟨p, o, none⟩) (hg8.block p hlt (fun e => hpa e.symm))).trans f0
  have HW := Lib.hid (And.intro hown' (And.intro hg8 hat7))
  clear hown' hgrow7 hat7 hg8 hta
  go_wp2_with fail
  go_end0
  refine ⟨rfl, a', c', w7, ?_, rfl, HW.out.2.1, ?_⟩
  · have := HW.out.1
    unfold IRow
    rw [List.length_append, HN.out, intCells, List.map_append]
    exact this
  · rcases HW.out.2.2 with h | h
    · exact .inl h
    · exact .inr ⟨_, h, by simp⟩
end Go.Proofs.Ythkemajekkilmaa
