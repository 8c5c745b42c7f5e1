/- Texts of the proof: A1 A2 A3. -/
namespace Go.Proofs.YtihaheinkpmnnaaGreat
set_option maxRecDepth 200000
/-- A list without its repetitions, in the order of the first occurrences. -/
def uq (l : List Int) : List Int := l.foldl (fun acc x => if x ∈ acc then acc else acc ++ [x]) []
theorem uq_snoc (l : List Int) (x : Int) : uq (l ++ [x]) = if x ∈ uq l then uq l else uq l ++ [x] := by
  unfold uq; rw [List.foldl_append]; rfl
theorem snoc_ind {α : Type} {P : List α → Prop} (h0 : P []) (h1 : ∀ l x, P l → P (l ++ [x])) : ∀ l, P l := by
  intro l
  have : ∀ r : List α, P r.reverse := by
    intro r
    induction r with
    | nil => exact h0
    | cons a r ih => rw [List.reverse_cons]; exact h1 _ _ ih
  have h := this l.reverse
  rwa [List.reverse_reverse] at h
theorem mem_uq (l : List Int) (y : Int) : y ∈ uq l ↔ y ∈ l := by
  refine snoc_ind (P := fun l => ∀ y, y ∈ uq l ↔ y ∈ l) (fun y => by simp [uq]) (fun l x ih y => ?_) l y
  rw [uq_snoc]
  by_cases h : x ∈ uq l
  · rw [if_pos h, ih]
    have h' := (ih x).1 h
    simp only [List.mem_append, List.mem_singleton]
    constructor
    · exact .inl
    · rintro (h | rfl)
      · exact h
      · exact h'
  · rw [if_neg h]; simp only [List.mem_append, List.mem_singleton, ih]
theorem nodup_uq (l : List Int) : (uq l).Nodup := by
  refine snoc_ind (P := fun l => (uq l).Nodup) (by simp [uq]) (fun l x ih => ?_) l
  rw [uq_snoc]
  by_cases h : x ∈ uq l
  · rw [if_pos h]; exact ih
  · rw [if_neg h]
    refine List.nodup_append.2 ⟨ih, by simp, ?_⟩
    intro a ha b hb
    simp at hb
    intro e
    exact h (by rw [← hb, ← e]; exact ha)
/-- A literal is undetermined. -/
def und (tr : List Int) (x : Int) : Bool := !(tr.contains x) && !(tr.contains (-x))
theorem und_iff (tr : List Int) (x : Int) : und tr x = true ↔ x ∉ tr ∧ -x ∉ tr := by
  simp [und]
/-- How many literals of a clause are true, and undetermined. -/
def satN (tr c : List Int) : Nat := (uq c).countP (fun y => tr.contains y)
def opnN (tr c : List Int) : Nat := (uq c).countP (und tr)
/-- The clause is falsified or unit. -/
def hot (tr c : List Int) : Bool := satN tr c == 0 && decide (opnN tr c < 2)
theorem countP_lt_two {p : Int → Bool} : ∀ {l : List Int}, l.Nodup → (l.countP p < 2 ↔ ∀ x ∈ l, ∀ y ∈ l, p x = true → p y = true → x = y)
  | [], _ => by simp
  | a :: l, h => by
    have h' := List.nodup_cons.1 h
    have ih := countP_lt_two (p := p) h'.2
    rw [List.countP_cons]
    by_cases ha : p a = true
    · rw [if_pos ha]
      constructor
      · intro hlt x hx y hy px py
        have h0 : l.countP p = 0 := by omega
        rw [List.countP_eq_zero] at h0
        rcases List.mem_cons.1 hx with rfl | hx
        · rcases List.mem_cons.1 hy with rfl | hy
          · rfl
          · exact absurd py (h0 y hy)
        · exact absurd px (h0 x hx)
      · intro hall
        have h0 : l.countP p = 0 := List.countP_eq_zero.2 fun y hy py => by
          have := hall a (List.mem_cons_self ..) y (List.mem_cons_of_mem _ hy) ha py
          exact h'.1 (this ▸ hy)
        omega
    · rw [if_neg ha, Nat.add_zero, ih]
      constructor
      · intro hall x hx y hy px py
        rcases List.mem_cons.1 hx with rfl | hx
        · exact absurd px ha
        rcases List.mem_cons.1 hy with rfl | hy
        · exact absurd py ha
        exact hall x hx y hy px py
      · exact fun hall x hx y hy => hall x (List.mem_cons_of_mem _ hx) y (List.mem_cons_of_mem _ hy)
theorem hot_iff (tr c : List Int) : hot tr c = true ↔ (∀ y ∈ c, y ∉ tr) ∧ ∀ x ∈ c, ∀ y ∈ c, und tr x = true → und tr y = true → x = y := by
  unfold hot satN opnN
  simp only [Bool.and_eq_true, beq_iff_eq, decide_eq_true_eq]
  rw [countP_lt_two (nodup_uq c), List.countP_eq_zero]
  simp only [mem_uq, List.contains_iff_mem]
/-- The clause is falsified. -/
theorem find_none {tr c : List Int} (h : c.find? (und tr) = none) (h0 : ∀ y ∈ c, y ∉ tr) : ∀ y ∈ c, -y ∈ tr := by
  intro y hy
  have h1 := List.find?_eq_none.1 h y hy
  rw [und_iff] at h1
  exact Classical.byContradiction fun hn => h1 ⟨h0 y hy, hn⟩
/-- One step of propagation after the other: the trail, the clauses of its implied literals, the conflict. -/
def prop (C : List (List Int)) : Nat → List Int → List Int → List Int × List Int × Int
  | 0, tr, rs => (tr, rs, -1)
  | n + 1, tr, rs => match C.findIdx? (hot tr) with
    | none => (tr, rs, -1)
    | some i => match (C.getD i []).find? (und tr) with
      | none => (tr, rs, (i : Int))
      | some x => prop C n (tr ++ [x]) (rs ++ [(i : Int)])
/-- What follows. -/
inductive Der (C : List (List Int)) (A : List Int) : Int → Prop
  | ass (x : Int) : x ∈ A → Der C A x
  | imp (c : List Int) (x : Int) : c ∈ C → x ∈ c → (∀ y ∈ c, y ≠ x → Der C A (-y)) → Der C A x
def Conf (C : List (List Int)) (A : List Int) : Prop := ∃ c ∈ C, ∀ y ∈ c, Der C A (-y)
theorem Der.mono {C D : List (List Int)} {A B : List Int} (hC : ∀ c ∈ C, c ∈ D) (hA : ∀ x ∈ A, Der D B x) {x : Int} (h : Der C A x) : Der D B x := by
  induction h with
  | ass x hx => exact hA x hx
  | imp c x hc hx _ ih => exact .imp c x (hC c hc) hx ih
theorem Conf.mono {C D : List (List Int)} {A B : List Int} (hC : ∀ c ∈ C, c ∈ D) (hA : ∀ x ∈ A, Der D B x) (h : Conf C A) : Conf D B := by
  obtain ⟨c, hc, h⟩ := h
  exact ⟨c, hC c hc, fun y hy => (h y hy).mono hC hA⟩
/-- The trail holds no literal with its opposite. -/
def Cons (tr : List Int) : Prop := ∀ x ∈ tr, -x ∉ tr
theorem Cons.snoc {tr : List Int} {x : Int} (h : Cons tr) (hx : x ≠ 0) (hu : und tr x = true) : Cons (tr ++ [x]) := by
  obtain ⟨h1, h2⟩ := (und_iff tr x).1 hu
  intro y hy
  simp only [List.mem_append, List.mem_singleton] at hy ⊢
  rintro (h3 | h3) <;> rcases hy with hy | rfl
  · exact h y hy h3
  · exact h2 h3
  · exact h2 (by rw [← h3, Int.neg_neg]; exact hy)
  · omega
/-- No clause is falsified or unit. -/
def Shut (C : List (List Int)) (tr : List Int) : Prop := ∀ c ∈ C, hot tr c = false
/-- What a closed trail holds is all that follows. -/
theorem shut_all {C : List (List Int)} {A tr : List Int} (hs : Shut C tr) (hc : Cons tr) (hA : ∀ x ∈ A, x ∈ tr) {x : Int} (h : Der C A x) : x ∈ tr := by
  induction h with
  | ass x hx => exact hA x hx
  | imp c x hcC hx _ ih =>
    apply Classical.byContradiction
    intro hn
    have hh := hs c hcC
    have : hot tr c = true := (hot_iff tr c).2 ⟨fun y hy hyt => by
      by_cases e : y = x
      · exact hn (e ▸ hyt)
      · exact hc y hyt (ih y hy e), fun u hu v hv pu pv => by
      have key : ∀ u ∈ c, und tr u = true → u = x := fun u hu pu => by
        apply Classical.byContradiction
        intro e
        exact ((und_iff tr u).1 pu).2 (ih u hu e)
      rw [key u hu pu, key v hv pv]⟩
    rw [this] at hh
    cases hh
theorem shut_conf {C : List (List Int)} {A tr : List Int} (hs : Shut C tr) (hc : Cons tr) (hA : ∀ x ∈ A, x ∈ tr) : ¬ Conf C A := by
  rintro ⟨c, hcC, h⟩
  have hh := hs c hcC
  have h1 : ∀ y ∈ c, -y ∈ tr := fun y hy => shut_all hs hc hA (h y hy)
  have : hot tr c = true := (hot_iff tr c).2 ⟨fun y hy hyt => hc y hyt (h1 y hy), fun u hu v _ pu _ => absurd (h1 u hu) ((und_iff tr u).1 pu).2⟩
  rw [this] at hh
  cases hh
theorem findIdx_none {C : List (List Int)} {tr : List Int} (h : C.findIdx? (hot tr) = none) : Shut C tr := by
  intro c hc
  have := List.findIdx?_eq_none_iff.1 h c hc
  exact this
theorem findIdx_some {C : List (List Int)} {tr : List Int} {i : Nat} (h : C.findIdx? (hot tr) = some i) : i < C.length ∧ C.getD i [] ∈ C ∧ hot tr (C.getD i []) = true := by
  obtain ⟨h1, h2, _⟩ := List.findIdx?_eq_some_iff_getElem.1 h
  have e : C.getD i [] = C[i] := by rw [List.getD_eq_getElem?_getD, List.getElem?_eq_getElem h1]; rfl
  exact ⟨h1, by rw [e]; exact List.getElem_mem h1, by rw [e]; exact h2⟩
/-- What a step implies follows. -/
theorem der_step {C : List (List Int)} {A tr c : List Int} (hd : ∀ y ∈ tr, Der C A y) (hc : c ∈ C) (hh : hot tr c = true) {x : Int} (hx : c.find? (und tr) = some x) : Der C A x := by
  obtain ⟨h0, h1⟩ := (hot_iff tr c).1 hh
  have hxc := List.mem_of_find?_eq_some hx
  have hxu := List.find?_some hx
  refine .imp c x hc hxc fun y hy hne => ?_
  apply hd
  apply Classical.byContradiction
  intro hn
  exact hne (h1 y hy x hxc ((und_iff tr y).2 ⟨h0 y hy, hn⟩) hxu)
end Go.Proofs.YtihaheinkpmnnaaGreat

namespace Go.Proofs.YtihaheinkpmnnaaGreat
set_option maxRecDepth 200000
/-- How many variables are undetermined. -/
def free (V : Nat) (tr : List Int) : Nat := (List.range V).countP (fun v : Nat => und tr ((v : Int) + 1))
theorem countP_lt_of {p q : Nat → Bool} {l : List Nat} (h : ∀ x ∈ l, q x = true → p x = true) {a : Nat} (ha : a ∈ l) (pa : p a = true) (qa : q a = false) : l.countP q < l.countP p := by
  induction l with
  | nil => cases ha
  | cons b l ih =>
    have hb := h b (List.mem_cons_self ..)
    have hl : l.countP q ≤ l.countP p := List.countP_mono_left fun x hx => h x (List.mem_cons_of_mem _ hx)
    rw [List.countP_cons, List.countP_cons]
    rcases List.mem_cons.1 ha with rfl | ha
    · rw [if_pos pa, if_neg (by rw [qa]; decide)]; omega
    · have := ih (fun x hx => h x (List.mem_cons_of_mem _ hx)) ha
      cases hq : q b with
      | true => rw [if_pos rfl, if_pos (hb hq)]; omega
      | false => rw [if_neg (by decide)]; split <;> omega
theorem und_snoc {tr : List Int} {x y : Int} : und (tr ++ [x]) y = (und tr y && !(y == x) && !(-y == x)) := by
  rw [Bool.eq_iff_iff, und_iff]
  simp only [List.mem_append, List.mem_singleton, not_or, Bool.and_eq_true, und_iff, Bool.not_eq_true', beq_eq_false_iff_ne]
  constructor
  · rintro ⟨⟨a, b⟩, c, d⟩; exact ⟨⟨⟨a, c⟩, b⟩, d⟩
  · rintro ⟨⟨⟨a, c⟩, b⟩, d⟩; exact ⟨⟨a, b⟩, c, d⟩
/-- A literal that is in range. -/
def InR (V : Nat) (x : Int) : Prop := x ≠ 0 ∧ x ≤ V ∧ -V ≤ x
theorem free_snoc {V : Nat} {tr : List Int} {x : Int} (h : InR V x) (hu : und tr x = true) : free V (tr ++ [x]) < free V tr := by
  obtain ⟨h0, h1, h2⟩ := h
  unfold free
  refine countP_lt_of (a := x.natAbs - 1) (fun v _ hv => ?_) (by rw [List.mem_range]; omega) ?_ ?_
  · rw [und_snoc] at hv; simp only [Bool.and_eq_true] at hv; exact hv.1.1
  · rw [und_iff] at hu ⊢
    rcases Int.natAbs_eq x with e | e
    · have : ((x.natAbs - 1 : Nat) : Int) + 1 = x := by omega
      rw [this]; exact hu
    · have : ((x.natAbs - 1 : Nat) : Int) + 1 = -x := by omega
      rw [this, Int.neg_neg]; exact ⟨hu.2, hu.1⟩
  · rw [und_snoc]
    rcases Int.natAbs_eq x with e | e
    · have : ((x.natAbs - 1 : Nat) : Int) + 1 = x := by omega
      rw [this]; simp
    · have : ((x.natAbs - 1 : Nat) : Int) + 1 = -x := by omega
      rw [this]; simp
theorem free_nil (V : Nat) : free V [] = V := by
  unfold free
  rw [List.countP_eq_length.2 (fun v _ => by simp [und]), List.length_range]
/-- The formula's literals are in range. -/
def Ran (V : Nat) (C : List (List Int)) : Prop := ∀ c ∈ C, ∀ y ∈ c, InR V y
/-- The implied literals with their clauses, one after the other. -/
def Steps (C : List (List Int)) (tr : List Int) : List Int → List Int → Prop
  | [], [] => True
  | x :: l, r :: rs => (∃ i : Nat, r = (i : Int) ∧ i < C.length ∧ hot tr (C.getD i []) = true ∧ (C.getD i []).find? (und tr) = some x) ∧ Steps C (tr ++ [x]) l rs
  | _, _ => False
theorem prop_spec {V : Nat} {C : List (List Int)} {A : List Int} (hR : Ran V C) : ∀ (n : Nat) (tr rs : List Int), free V tr < n → Cons tr → (∀ y ∈ tr, Der C A y) →
    ∃ l qs k, prop C n tr rs = (tr ++ l, rs ++ qs, k) ∧ Steps C tr l qs ∧ Cons (tr ++ l) ∧ (∀ y ∈ tr ++ l, Der C A y) ∧ (∀ y ∈ l, InR V y) ∧
      ((k = -1 ∧ Shut C (tr ++ l)) ∨ ∃ i : Nat, k = (i : Int) ∧ i < C.length ∧ hot (tr ++ l) (C.getD i []) = true ∧ ∀ y ∈ C.getD i [], -y ∈ tr ++ l)
  | 0, _, _, h, _, _ => absurd h (Nat.not_lt_zero _)
  | n + 1, tr, rs, hf, hc, hd => by
    unfold prop
    cases hi : C.findIdx? (hot tr) with
    | none => exact ⟨[], [], -1, by simp, trivial, by simpa using hc, by simpa using hd, by simp, .inl ⟨rfl, by simpa using findIdx_none hi⟩⟩
    | some i =>
      obtain ⟨h1, h2, h3⟩ := findIdx_some hi
      dsimp only
      cases hx : (C.getD i []).find? (und tr) with
      | none => exact ⟨[], [], (i : Int), by simp, trivial, by simpa using hc, by simpa using hd, by simp, .inr ⟨i, rfl, h1, by simpa using h3, by simpa using find_none hx ((hot_iff _ _).1 h3).1⟩⟩
      | some x =>
        dsimp only
        have hxc := List.mem_of_find?_eq_some hx
        have hxu := List.find?_some hx
        have hxr := hR _ h2 x hxc
        have hc' := hc.snoc hxr.1 hxu
        have hd' : ∀ y ∈ tr ++ [x], Der C A y := by
          intro y hy
          rcases List.mem_append.1 hy with hy | hy
          · exact hd y hy
          · rw [List.mem_singleton.1 hy]; exact der_step hd h2 h3 hx
        obtain ⟨l, qs, k, e, hs, g1, g2, g3, g4⟩ := prop_spec hR n (tr ++ [x]) (rs ++ [(i : Int)]) (by have := free_snoc hxr hxu; omega) hc' hd'
        refine ⟨x :: l, (i : Int) :: qs, k, by rw [e]; simp, ⟨⟨i, rfl, h1, h3, hx⟩, hs⟩, by simpa using g1, by simpa using g2, ?_, by simpa using g4⟩
        intro y hy
        rcases List.mem_cons.1 hy with rfl | hy
        · exact hxr
        · exact g3 y hy
def contraP (A : List Int) : Bool := A.any fun x => A.contains (-x)
theorem contra_false {A : List Int} (h : contraP A = false) : Cons A := by
  intro x hx hn
  have : contraP A = true := List.any_eq_true.2 ⟨x, hx, by simpa using hn⟩
  rw [this] at h; cases h
theorem cons_uq {A : List Int} (h : Cons A) : Cons (uq A) := fun x hx hn => h x ((mem_uq A x).1 hx) ((mem_uq A _).1 hn)
/-- Propagation: the trail, how much of it is assumed, the clauses of the rest, the conflict. -/
def propP (V : Nat) (C : List (List Int)) (A : List Int) : List Int × Nat × List Int × Int :=
  if contraP A = true then ([], 0, [], -2) else
    let r := prop C (V + 1) (uq A) []
    (r.1, (uq A).length, r.2.1, r.2.2)
theorem free_le (V : Nat) (tr : List Int) : free V tr ≤ V := by
  unfold free
  have := List.countP_le_length (p := fun v : Nat => und tr ((v : Int) + 1)) (l := List.range V)
  rwa [List.length_range] at this
theorem propP_spec {V : Nat} {C : List (List Int)} {A : List Int} (hR : Ran V C) (h : contraP A = false) :
    ∃ l qs k, propP V C A = (uq A ++ l, (uq A).length, qs, k) ∧ Steps C (uq A) l qs ∧ Cons (uq A ++ l) ∧ (∀ y ∈ uq A ++ l, Der C A y) ∧ (∀ y ∈ l, InR V y) ∧
      ((k = -1 ∧ Shut C (uq A ++ l)) ∨ ∃ i : Nat, k = (i : Int) ∧ i < C.length ∧ hot (uq A ++ l) (C.getD i []) = true ∧ ∀ y ∈ C.getD i [], -y ∈ uq A ++ l) := by
  obtain ⟨l, qs, k, e, h1⟩ := prop_spec (A := A) hR (V + 1) (uq A) [] (by have := free_le V (uq A); omega) (cons_uq (contra_false h)) (fun y hy => .ass y ((mem_uq A y).1 hy))
  refine ⟨l, qs, k, ?_, h1⟩
  unfold propP
  rw [h, if_neg (by decide), e]
  rfl
theorem propP_contra {V : Nat} {C : List (List Int)} {A : List Int} (h : contraP A = true) : propP V C A = ([], 0, [], -2) := by
  unfold propP; rw [if_pos h]
end Go.Proofs.YtihaheinkpmnnaaGreat

namespace Go.Proofs.YtihaheinkpmnnaaGreat
set_option maxRecDepth 200000
theorem countP_snoc {p q : Int → Bool} {x : Int} (hx : p x = false) (hq : q x = true) (h : ∀ y, y ≠ x → q y = p y) : ∀ {l : List Int}, l.Nodup → l.countP q = l.countP p + (if x ∈ l then 1 else 0)
  | [], _ => by simp
  | a :: l, hn => by
    have hn' := List.nodup_cons.1 hn
    have ih := countP_snoc hx hq h hn'.2
    rw [List.countP_cons, List.countP_cons, ih]
    by_cases e : a = x
    · subst e
      rw [hx, hq]
      simp [hn'.1]
    · rw [h a e]
      have e' : x ≠ a := fun h => e h.symm
      simp only [List.mem_cons, e', false_or]
      omega
theorem countP_drop {p q : Int → Bool} {x : Int} (hx : p x = true) (hq : q x = false) (h : ∀ y, y ≠ x → q y = p y) {l : List Int} (hn : l.Nodup) : l.countP q + (if x ∈ l then 1 else 0) = l.countP p :=
  (countP_snoc hq hx (fun y hy => (h y hy).symm) hn).symm
theorem sat_snoc {tr : List Int} {x : Int} (c : List Int) (hu : und tr x = true) : satN (tr ++ [x]) c = satN tr c + (if x ∈ c then 1 else 0) := by
  unfold satN
  rw [countP_snoc (p := fun y => tr.contains y) (x := x) (by simpa using ((und_iff tr x).1 hu).1) (by simp) (fun y hy => by simp [hy]) (nodup_uq c)]
  simp only [mem_uq]
theorem opn_snoc {tr : List Int} {x : Int} (c : List Int) (h0 : x ≠ 0) (hu : und tr x = true) : opnN (tr ++ [x]) c + (if x ∈ c then 1 else 0) + (if -x ∈ c then 1 else 0) = opnN tr c := by
  have hu' : und tr (-x) = true := by rw [und_iff] at *; rw [Int.neg_neg]; exact ⟨hu.2, hu.1⟩
  have h1 := countP_drop (p := und tr) (q := fun y => und tr y && !(y == -x)) (x := -x) hu' (by simp) (fun y hy => by simp [hy]) (nodup_uq c)
  have h2 := countP_drop (p := fun y => und tr y && !(y == -x)) (q := und (tr ++ [x])) (x := x) (by simp [hu]; omega) (by rw [und_snoc]; simp) (fun y hy => by
    rw [und_snoc, Bool.eq_iff_iff]
    simp only [Bool.and_eq_true, Bool.not_eq_true', beq_eq_false_iff_ne]
    constructor
    · rintro ⟨⟨a, b⟩, c⟩; exact ⟨a, fun e => c (by rw [e, Int.neg_neg])⟩
    · rintro ⟨a, c⟩; exact ⟨⟨a, hy⟩, fun e => c (by rw [← e, Int.neg_neg])⟩) (nodup_uq c)
  unfold opnN
  simp only [mem_uq] at h1 h2
  omega
/-- The value of a literal under a trail. -/
def valL (tr : List Int) (x : Int) : Int := if tr.contains x then 1 else if tr.contains (-x) then -1 else 0
theorem und_val {tr : List Int} {x : Int} : (valL tr x == 0) = und tr x := by
  unfold valL und
  cases tr.contains x <;> cases tr.contains (-x) <;> rfl
theorem val_neg {tr : List Int} (h : Cons tr) (x : Int) : valL tr (-x) = -valL tr x := by
  unfold valL
  rw [Int.neg_neg]
  by_cases h1 : x ∈ tr
  · have h2 := h x h1
    simp [h1, h2]
  · by_cases h2 : -x ∈ tr <;> simp [h1, h2]
/-- The values of the variables, behind the unused first cell. -/
def valsP (V : Nat) (tr : List Int) : List Int := (List.range (V + 1)).map fun (v : Nat) => if v = 0 then 0 else valL tr (v : Int)
theorem vals_get {V : Nat} {tr : List Int} {v : Nat} (h : v ≤ V) (h0 : v ≠ 0) : (valsP V tr)[v]? = some (valL tr (v : Int)) := by
  unfold valsP
  rw [List.getElem?_map, List.getElem?_range (by omega)]
  simp [h0]
theorem vals_nil (V : Nat) : valsP V [] = List.replicate (V + 1) 0 := by
  unfold valsP
  refine List.ext_getElem (by simp) fun i h1 h2 => ?_
  simp [valL]
theorem vals_pos {V : Nat} {tr : List Int} {v : Nat} (h0 : v ≠ 0) (hu : und tr (v : Int) = true) : (valsP V tr).set v 1 = valsP V (tr ++ [(v : Int)]) := by
  obtain ⟨h1, h2⟩ := (und_iff _ _).1 hu
  refine List.ext_getElem (by simp [valsP]) fun i g1 g2 => ?_
  rw [List.getElem_set]
  simp only [valsP, List.getElem_map, List.getElem_range]
  by_cases e : v = i
  · subst e; rw [if_pos rfl, if_neg h0]; simp [valL]
  · rw [if_neg e]
    by_cases e0 : i = 0
    · simp [e0]
    · rw [if_neg e0, if_neg e0]
      unfold valL
      have e1 : (i : Int) ≠ (v : Int) := by omega
      have e2 : -(i : Int) ≠ (v : Int) := by omega
      simp [e1, e2]
theorem vals_neg {V : Nat} {tr : List Int} {v : Nat} (h0 : v ≠ 0) (hu : und tr (-(v : Int)) = true) : (valsP V tr).set v (-1) = valsP V (tr ++ [-(v : Int)]) := by
  obtain ⟨h1, h2⟩ := (und_iff _ _).1 hu
  rw [Int.neg_neg] at h2
  refine List.ext_getElem (by simp [valsP]) fun i g1 g2 => ?_
  rw [List.getElem_set]
  simp only [valsP, List.getElem_map, List.getElem_range]
  by_cases e : v = i
  · subst e; rw [if_pos rfl, if_neg h0]
    unfold valL
    have e1 : (v : Int) ≠ -(v : Int) := by omega
    simp [h2, e1]
  · rw [if_neg e]
    by_cases e0 : i = 0
    · simp [e0]
    · rw [if_neg e0, if_neg e0]
      unfold valL
      have e1 : (i : Int) ≠ -(v : Int) := by omega
      have e2 : -(i : Int) ≠ -(v : Int) := by omega
      simp [e1, e2]
/-- The clauses with a literal. -/
def with_ (C : List (List Int)) (x : Int) : List Nat := (List.range C.length).filter fun i => (C.getD i []).contains x
theorem mem_with {C : List (List Int)} {x : Int} {i : Nat} : i ∈ with_ C x ↔ i < C.length ∧ x ∈ C.getD i [] := by
  simp [with_]
theorem nodup_with (C : List (List Int)) (x : Int) : (with_ C x).Nodup := List.Nodup.sublist (List.filter_sublist) List.nodup_range
/-- Cells that are counted up, or down. -/
def bump (d : Int) (l : List Int) (is : List Nat) : List Int := is.foldl (fun s i => s.set i (s.getD i 0 + d)) l
theorem bump_snoc (d : Int) (l : List Int) (is : List Nat) (i : Nat) : bump d l (is ++ [i]) = (bump d l is).set i ((bump d l is).getD i 0 + d) := by
  unfold bump; rw [List.foldl_append]; rfl
theorem bump_len (d : Int) (l : List Int) (is : List Nat) : (bump d l is).length = l.length := by
  refine snoc_ind (P := fun is => (bump d l is).length = l.length) rfl (fun is i ih => ?_) is
  rw [bump_snoc, List.length_set, ih]
theorem bump_get {d : Int} {l : List Int} {is : List Nat} (hn : is.Nodup) {j : Nat} (hj : j < l.length) : (bump d l is).getD j 0 = l.getD j 0 + (if j ∈ is then d else 0) := by
  revert hn
  refine snoc_ind (P := fun is => is.Nodup → (bump d l is).getD j 0 = l.getD j 0 + (if j ∈ is then d else 0)) (fun _ => by simp [bump]) (fun is i ih hn => ?_) is
  obtain ⟨h1, _, h3⟩ := List.nodup_append.1 hn
  have hni : i ∉ is := fun h => h3 i h i (by simp) rfl
  rw [bump_snoc, List.getD_eq_getElem?_getD, List.getElem?_set, bump_len]
  by_cases e : i = j
  · subst e
    rw [if_pos rfl, if_pos hj, ih h1, if_neg hni]
    simp
  · have e' : j ≠ i := fun h => e h.symm
    rw [if_neg e, ← List.getD_eq_getElem?_getD, ih h1]
    simp [e']
/-- The counts of all clauses. -/
def satsP (C : List (List Int)) (tr : List Int) : List Int := C.map fun c => (satN tr c : Int)
def opnsP (C : List (List Int)) (tr : List Int) : List Int := C.map fun c => (opnN tr c : Int)
theorem getD_map {f : List Int → Int} {C : List (List Int)} {j : Nat} (hj : j < C.length) : (C.map f).getD j 0 = f (C.getD j []) := by
  rw [List.getD_eq_getElem?_getD, List.getElem?_map, List.getD_eq_getElem?_getD, List.getElem?_eq_getElem hj]; rfl
theorem ext_getD {l m : List Int} (h : l.length = m.length) (hg : ∀ j, j < l.length → l.getD j 0 = m.getD j 0) : l = m := by
  refine List.ext_getElem h fun i h1 h2 => ?_
  have := hg i h1
  rw [List.getD_eq_getElem?_getD, List.getD_eq_getElem?_getD, List.getElem?_eq_getElem h1, List.getElem?_eq_getElem h2] at this
  exact this
theorem sats_step {C : List (List Int)} {tr : List Int} {x : Int} (hu : und tr x = true) : bump 1 (satsP C tr) (with_ C x) = satsP C (tr ++ [x]) := by
  refine ext_getD (by rw [bump_len]; simp [satsP]) fun j hj => ?_
  rw [bump_len] at hj
  have hjC : j < C.length := by simpa [satsP] using hj
  rw [bump_get (nodup_with C x) hj]
  unfold satsP
  rw [getD_map hjC, getD_map hjC, sat_snoc _ hu]
  by_cases h : x ∈ C.getD j []
  · rw [if_pos (mem_with.2 ⟨hjC, h⟩), if_pos h]; rfl
  · rw [if_neg (fun hh => h (mem_with.1 hh).2), if_neg h]; rfl
theorem opns_step {C : List (List Int)} {tr : List Int} {x : Int} (h0 : x ≠ 0) (hu : und tr x = true) : bump (-1) (bump (-1) (opnsP C tr) (with_ C x)) (with_ C (-x)) = opnsP C (tr ++ [x]) := by
  refine ext_getD (by rw [bump_len, bump_len]; simp [opnsP]) fun j hj => ?_
  rw [bump_len] at hj
  rw [bump_get (nodup_with C (-x)) hj]
  rw [bump_len] at hj
  have hjC : j < C.length := by simpa [opnsP] using hj
  rw [bump_get (nodup_with C x) hj]
  unfold opnsP
  rw [getD_map hjC, getD_map hjC]
  have key := opn_snoc (C.getD j []) h0 hu
  have e1 : (j ∈ with_ C x) = (x ∈ C.getD j []) := by rw [mem_with]; simp [hjC]
  have e2 : (j ∈ with_ C (-x)) = (-x ∈ C.getD j []) := by rw [mem_with]; simp [hjC]
  simp only [e1, e2]
  by_cases h1 : x ∈ C.getD j [] <;> by_cases h2 : -x ∈ C.getD j [] <;> simp only [h1, h2, if_true, if_false] at key ⊢ <;> omega
end Go.Proofs.YtihaheinkpmnnaaGreat
