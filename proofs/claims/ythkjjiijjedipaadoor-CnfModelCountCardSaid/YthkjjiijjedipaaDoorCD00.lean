/- Texts of the proof: GA. -/
namespace Go.Proofs.YthkjjiijjedipaaDoor

/-- A gate: its kind and its two numbers. -/
abbrev Gt := Int × Int × Int
def notR (r : Int) : Int := if r < 0 then -1 else if r % 2 = 0 then r + 1 else r - 1
/-- The first place of a gate. -/
def locG (x : Gt) : List Gt → Option Nat
  | [] => none
  | g :: gs => if g = x then some 0 else (locG x gs).map (· + 1)
def addG (gs : List Gt) (x : Gt) : List Gt × Int := match locG x gs with
  | some i => (gs, 2 * (i : Int))
  | none => if 20000 ≤ gs.length then (gs, -1) else (gs ++ [x], 2 * (gs.length : Int))
def inputC (gs : List Gt) (v : Int) : List Gt × Int := if v < 1 ∨ 20000 < v then (gs, -1) else addG gs (1, v, 0)
def andC (gs : List Gt) (a b : Int) : List Gt × Int :=
  if a < 0 ∨ b < 0 ∨ 2 * (gs.length : Int) ≤ a ∨ 2 * (gs.length : Int) ≤ b then (gs, -1)
  else if a = 1 ∨ b = 1 ∨ b = notR a then (gs, 1)
  else if a = 0 then (gs, b)
  else if b = 0 ∨ a = b then (gs, a)
  else addG gs (2, min a b, max a b)
def orC (gs : List Gt) (a b : Int) : List Gt × Int := ((andC gs (notR a) (notR b)).1, notR (andC gs (notR a) (notR b)).2)
def iffC (gs : List Gt) (a b : Int) : List Gt × Int :=
  andC (andC (andC gs a (notR b)).1 (notR a) b).1 (notR (andC gs a (notR b)).2) (notR (andC (andC gs a (notR b)).1 (notR a) b).2)
/-- A reference's value among the gates' values. -/
def litV (known : List Bool) (r : Int) : Bool := decide (0 ≤ r) && (match known[(r / 2).toNat]? with | some v => v != decide (r % 2 = 1) | none => false)
def gateV (values known : List Bool) (g : Gt) : Bool :=
  if g.1 = 1 then decide (1 ≤ g.2.1) && (values[(g.2.1 - 1).toNat]?).getD false
  else if g.1 = 2 then litV known g.2.1 && litV known g.2.2 else true
def knownV (values : List Bool) (gs : List Gt) : List Bool := gs.foldl (fun kn g => kn ++ [gateV values kn g]) []
def evalC (gs : List Gt) (values : List Bool) (r : Int) : Bool := decide (0 ≤ r ∧ r < 2 * (gs.length : Int)) && litV (knownV values (gs.take ((r / 2).toNat + 1))) r
def formG (g : Gt) (i : Nat) : Prop := (g.1 = 1 ∧ 1 ≤ g.2.1 ∧ g.2.1 ≤ 20000 ∧ g.2.2 = 0) ∨ (g.1 = 2 ∧ 2 ≤ g.2.1 ∧ g.2.1 < g.2.2 ∧ g.2.2 < 2 * (i : Int) ∧ g.2.1 / 2 ≠ g.2.2 / 2)
/-- A circuit that is well-formed. -/
structure Good (gs : List Gt) : Prop where
  zero : gs[0]? = some (0, 0, 0)
  form : ∀ (i : Nat) (g : Gt), 0 < i → gs[i]? = some g → formG g i
  one : ∀ (i j : Nat) (g : Gt), gs[i]? = some g → gs[j]? = some g → i = j
/-- A reference of a circuit. -/
def Ok (gs : List Gt) (r : Int) : Prop := 0 ≤ r ∧ r < 2 * (gs.length : Int)

theorem Good.pos {gs : List Gt} (h : Good gs) : 1 ≤ gs.length := (List.getElem?_eq_some_iff.1 h.zero).1
theorem locG_some {x : Gt} : ∀ {gs : List Gt} {i : Nat}, locG x gs = some i → gs[i]? = some x
  | g :: gs, i, h => by
    unfold locG at h
    by_cases hg : g = x
    · rw [if_pos hg] at h; injection h with h; subst h; simp [hg]
    · rw [if_neg hg] at h
      cases hl : locG x gs with
      | none => rw [hl] at h; cases h
      | some j => rw [hl] at h; injection h with h; subst h; simpa using locG_some hl
theorem locG_none {x : Gt} : ∀ {gs : List Gt}, locG x gs = none → x ∉ gs
  | [], _ => by simp
  | g :: gs, h => by
    unfold locG at h
    by_cases hg : g = x
    · rw [if_pos hg] at h; cases h
    · rw [if_neg hg] at h
      cases hl : locG x gs with
      | none => have := locG_none hl; simp only [List.mem_cons, not_or]; exact ⟨fun e => hg e.symm, this⟩
      | some j => rw [hl] at h; cases h
theorem notR_ok {gs : List Gt} {r : Int} (h : Ok gs r) : Ok gs (notR r) := by
  obtain ⟨h1, h2⟩ := h
  unfold notR
  rw [if_neg (by omega)]
  split
  · exact ⟨by omega, by omega⟩
  · exact ⟨by omega, by omega⟩
theorem notR_even {r : Int} (h : 0 ≤ r) (h2 : r % 2 = 0) : notR r = r + 1 := by
  unfold notR
  rw [if_neg (by omega), if_pos h2]
theorem notR_odd {r : Int} (h : 0 ≤ r) (h2 : ¬ r % 2 = 0) : notR r = r - 1 := by
  unfold notR
  rw [if_neg (by omega), if_neg h2]
theorem notR_half {r : Int} (h : 0 ≤ r) : notR r / 2 = r / 2 := by
  unfold notR
  rw [if_neg (by omega)]
  split <;> omega
theorem notR_nonneg {r : Int} (h : 0 ≤ r) : 0 ≤ notR r := by
  unfold notR
  rw [if_neg (by omega)]
  split <;> omega

theorem good_new : Good [(0, 0, 0)] := by
  refine ⟨rfl, fun i g hi h => ?_, fun i j g h1 h2 => ?_⟩
  · have := (List.getElem?_eq_some_iff.1 h).1; simp at this; omega
  · have h3 := (List.getElem?_eq_some_iff.1 h1).1; have h4 := (List.getElem?_eq_some_iff.1 h2).1; simp at h3 h4; omega

/-- What an operation does to a circuit: it stays good, grows at its end, and its answer is a reference. -/
structure Step (gs : List Gt) (p : List Gt × Int) : Prop where
  good : Good p.1
  pre : gs <+: p.1
theorem Step.refl {gs : List Gt} (h : Good gs) (r : Int) : Step gs (gs, r) := ⟨h, List.prefix_refl _⟩
theorem step_add {gs : List Gt} (h : Good gs) {x : Gt} (hx : formG x gs.length) : Step gs (addG gs x) := by
  unfold addG
  cases hl : locG x gs with
  | some i => exact .refl h _
  | none =>
    by_cases hc : 20000 ≤ gs.length
    · rw [if_pos hc]; exact .refl h _
    · rw [if_neg hc]
      have hp := h.pos
      refine ⟨⟨?_, fun i g hi hg => ?_, fun i j g h1 h2 => ?_⟩, List.prefix_append _ _⟩
      · show (gs ++ [x])[0]? = _
        rw [List.getElem?_append_left (by omega)]; exact h.zero
      · replace hg : (gs ++ [x])[i]? = some g := hg
        rw [List.getElem?_append] at hg
        split at hg
        · exact h.form i g hi hg
        · have h3 := (List.getElem?_eq_some_iff.1 hg).1
          simp at h3
          have : i = gs.length := by omega
          subst this
          simp at hg
          subst hg
          exact hx
      · have hn := locG_none hl
        replace h1 : (gs ++ [x])[i]? = some g := h1
        replace h2 : (gs ++ [x])[j]? = some g := h2
        rw [List.getElem?_append] at h1 h2
        split at h1 <;> split at h2
        · exact h.one i j g h1 h2
        · have h3 := (List.getElem?_eq_some_iff.1 h2).1
          simp at h3
          have : j - gs.length = 0 := by omega
          rw [this] at h2
          simp at h2
          subst h2
          exact absurd (List.mem_of_getElem? h1) hn
        · have h3 := (List.getElem?_eq_some_iff.1 h1).1
          simp at h3
          have : i - gs.length = 0 := by omega
          rw [this] at h1
          simp at h1
          subst h1
          exact absurd (List.mem_of_getElem? h2) hn
        · have h3 := (List.getElem?_eq_some_iff.1 h1).1
          have h4 := (List.getElem?_eq_some_iff.1 h2).1
          simp at h3 h4
          omega
theorem add_ok {gs : List Gt} {x : Gt} (hl : gs.length < 20000) : Ok (addG gs x).1 (addG gs x).2 := by
  unfold addG Ok
  cases h : locG x gs with
  | some i =>
    have := (List.getElem?_eq_some_iff.1 (locG_some h)).1
    simp only
    omega
  | none =>
    simp only
    rw [if_neg (by omega)]
    simp
    omega
theorem step_input {gs : List Gt} (h : Good gs) (v : Int) : Step gs (inputC gs v) := by
  unfold inputC
  split
  · exact .refl h _
  · exact step_add h (.inl ⟨rfl, by simp only; omega, by simp only; omega, rfl⟩)
theorem step_and {gs : List Gt} (h : Good gs) (a b : Int) : Step gs (andC gs a b) := by
  unfold andC
  split
  · exact .refl h _
  · rename_i h1
    split
    · exact .refl h _
    · rename_i h2
      split
      · exact .refl h _
      · rename_i h3
        split
        · exact .refl h _
        · rename_i h4
          refine step_add h (.inr ⟨rfl, ?_, ?_, ?_, ?_⟩) <;> simp only
          · omega
          · omega
          · omega
          · have h5 : ¬ b = notR a := fun e => h2 (.inr (.inr e))
            unfold notR at h5
            rw [if_neg (by omega)] at h5
            split at h5 <;> omega
theorem Step.trans {gs : List Gt} {p q : List Gt × Int} (h1 : Step gs p) (h2 : Step p.1 q) : Step gs q := ⟨h2.good, h1.pre.trans h2.pre⟩
theorem step_or {gs : List Gt} (h : Good gs) (a b : Int) : Step gs (orC gs a b) := ⟨(step_and h _ _).good, (step_and h _ _).pre⟩
theorem step_iff {gs : List Gt} (h : Good gs) (a b : Int) : Step gs (iffC gs a b) := by
  have h1 := step_and h a (notR b)
  have h2 := step_and h1.good (notR a) b
  exact (h1.trans h2).trans (step_and h2.good _ _)
theorem Ok.grow {gs hs : List Gt} (hp : gs <+: hs) {r : Int} (h : Ok gs r) : Ok hs r := by
  have := hp.length_le
  unfold Ok at *
  omega
theorem input_ok {gs : List Gt} (hl : gs.length < 20000) {v : Int} (hv : 1 ≤ v) (hv2 : v ≤ 20000) : Ok (inputC gs v).1 (inputC gs v).2 := by
  unfold inputC
  rw [if_neg (by omega)]
  exact add_ok hl
theorem and_ok {gs : List Gt} (h : Good gs) (hl : gs.length < 20000) {a b : Int} (ha : Ok gs a) (hb : Ok gs b) : Ok (andC gs a b).1 (andC gs a b).2 := by
  have hp := h.pos
  have ha' := ha; have hb' := hb
  unfold Ok at ha' hb'
  unfold andC
  rw [if_neg (by omega)]
  split
  · unfold Ok; simp only; omega
  · split
    · exact hb
    · split
      · exact ha
      · exact add_ok hl
theorem and_len {gs : List Gt} (a b : Int) : (andC gs a b).1.length ≤ gs.length + 1 := by
  unfold andC addG
  split
  · simp
  · split
    · simp
    · split
      · simp
      · split
        · simp
        · split
          · simp
          · split <;> simp
theorem input_len {gs : List Gt} (v : Int) : (inputC gs v).1.length ≤ gs.length + 1 := by
  unfold inputC addG
  split
  · simp
  · split
    · simp
    · split <;> simp
theorem or_len {gs : List Gt} (a b : Int) : (orC gs a b).1.length ≤ gs.length + 1 := and_len _ _
theorem iff_len {gs : List Gt} (a b : Int) : (iffC gs a b).1.length ≤ gs.length + 3 := by
  have h1 := and_len (gs := gs) a (notR b)
  have h2 := and_len (gs := (andC gs a (notR b)).1) (notR a) b
  have h3 := and_len (gs := (andC (andC gs a (notR b)).1 (notR a) b).1) (notR (andC gs a (notR b)).2) (notR (andC (andC gs a (notR b)).1 (notR a) b).2)
  unfold iffC
  omega
theorem or_ok {gs : List Gt} (h : Good gs) (hl : gs.length < 20000) {a b : Int} (ha : Ok gs a) (hb : Ok gs b) : Ok (orC gs a b).1 (orC gs a b).2 := notR_ok (and_ok h hl (notR_ok ha) (notR_ok hb))
theorem iff_ok {gs : List Gt} (h : Good gs) (hl : gs.length < 19998) {a b : Int} (ha : Ok gs a) (hb : Ok gs b) : Ok (iffC gs a b).1 (iffC gs a b).2 := by
  have h1 := step_and h a (notR b)
  have h2 := step_and h1.good (notR a) b
  have l1 := and_len (gs := gs) a (notR b)
  have l2 := and_len (gs := (andC gs a (notR b)).1) (notR a) b
  have o1 := and_ok h (by omega) ha (notR_ok hb)
  have o2 := and_ok h1.good (by omega) ((notR_ok ha).grow h1.pre) (hb.grow h1.pre)
  exact and_ok h2.good (by omega) ((notR_ok o1).grow h2.pre) (notR_ok o2)

/- ---- values ---- -/
theorem known_snoc (values : List Bool) (gs : List Gt) (g : Gt) : knownV values (gs ++ [g]) = knownV values gs ++ [gateV values (knownV values gs) g] := by
  unfold knownV
  rw [List.foldl_append]
  rfl
theorem known_len (values : List Bool) : ∀ gs : List Gt, (knownV values gs).length = gs.length := by
  intro gs
  rw [← List.reverse_reverse gs]
  induction gs.reverse with
  | nil => rfl
  | cons g l ih => rw [List.reverse_cons, known_snoc, List.length_append, ih]; simp
theorem known_pre (values : List Bool) {gs hs : List Gt} (h : gs <+: hs) : knownV values gs <+: knownV values hs := by
  obtain ⟨t, rfl⟩ := h
  rw [← List.reverse_reverse t]
  induction t.reverse with
  | nil => simp
  | cons g l ih => rw [List.reverse_cons, ← List.append_assoc, known_snoc]; exact ih.trans (List.prefix_append _ _)
theorem lit_pre {k l : List Bool} (h : k <+: l) {r : Int} (h0 : 0 ≤ r) (hr : r < 2 * (k.length : Int)) : litV l r = litV k r := by
  obtain ⟨t, rfl⟩ := h
  unfold litV
  rw [List.getElem?_append_left (by omega)]
/-- A reference's value. -/
def valC (gs : List Gt) (values : List Bool) (r : Int) : Bool := litV (knownV values gs) r
theorem eval_val {gs : List Gt} {values : List Bool} {r : Int} (h : Ok gs r) : evalC gs values r = valC gs values r := by
  obtain ⟨h1, h2⟩ := h
  unfold evalC valC
  rw [decide_eq_true ⟨h1, h2⟩, Bool.true_and]
  refine (lit_pre (known_pre values (List.take_prefix _ _)) h1 ?_).symm
  rw [known_len, List.length_take]
  omega
theorem val_not {gs : List Gt} {values : List Bool} {r : Int} (h : Ok gs r) : valC gs values (notR r) = !valC gs values r := by
  obtain ⟨h1, h2⟩ := h
  have hh := notR_half h1
  have hn := notR_nonneg h1
  have hl := known_len values gs
  unfold valC litV
  rw [hh, decide_eq_true hn, decide_eq_true h1]
  obtain ⟨v, hv⟩ : ∃ v, (knownV values gs)[(r / 2).toNat]? = some v := ⟨_, List.getElem?_eq_getElem (by omega)⟩
  rw [hv]
  have hm : decide (notR r % 2 = 1) = !decide (r % 2 = 1) := by
    unfold notR
    rw [if_neg (by omega)]
    by_cases h3 : r % 2 = 0
    · rw [if_pos h3, decide_eq_true (by omega), decide_eq_false (by omega)]; rfl
    · rw [if_neg h3, decide_eq_false (by omega), decide_eq_true (by omega)]; rfl
  simp only [hm, Bool.true_and]
  cases v <;> cases decide (r % 2 = 1) <;> rfl
theorem val_at {gs : List Gt} {values : List Bool} {i : Nat} {g : Gt} (hg : gs[i]? = some g) : valC gs values (2 * (i : Int)) = gateV values (knownV values (gs.take i)) g := by
  have hi := (List.getElem?_eq_some_iff.1 hg).1
  have hp : gs.take i ++ [g] <+: gs := by
    refine ⟨gs.drop (i + 1), ?_⟩
    have : gs.take (i + 1) = gs.take i ++ [g] := by rw [List.take_add_one, hg]; rfl
    rw [← this, List.take_append_drop]
  have hl : (knownV values (gs.take i)).length = i := by rw [known_len, List.length_take]; omega
  have h1 := lit_pre (known_pre values hp) (r := 2 * (i : Int)) (by omega) (by rw [known_len, List.length_append, List.length_take]; simp; omega)
  unfold valC
  rw [h1, known_snoc]
  unfold litV
  rw [decide_eq_true (by omega), show ((2 * (i : Int)) / 2).toNat = i by omega, List.getElem?_append_right (by omega), hl, Nat.sub_self]
  simp only [List.getElem?_cons_zero, Bool.true_and]
  rw [decide_eq_false (by omega)]
  cases gateV values (knownV values (gs.take i)) g <;> rfl
theorem val_true {gs : List Gt} (h : Good gs) (values : List Bool) : valC gs values 0 = true := by
  have := val_at (values := values) h.zero
  simpa [gateV] using this
theorem val_false {gs : List Gt} (h : Good gs) (values : List Bool) : valC gs values 1 = false := by
  have hp := h.pos
  have := val_not (gs := gs) (values := values) (r := 0) ⟨by omega, by omega⟩
  rw [val_true h] at this
  exact this
theorem val_and_gate {gs : List Gt} (h : Good gs) {values : List Bool} {i : Nat} {a b : Int} (hg : gs[i]? = some (2, a, b)) : valC gs values (2 * (i : Int)) = (valC gs values a && valC gs values b) := by
  have hi := (List.getElem?_eq_some_iff.1 hg).1
  have h0 : 0 < i := by
    cases i with
    | zero => rw [h.zero] at hg; cases hg
    | succ n => omega
  rw [val_at hg]
  have hf := h.form i _ h0 hg
  rcases hf with hf | ⟨_, h1, h2, h3, _⟩
  · simp at hf
  simp only at h1 h2 h3
  have hl : (knownV values (gs.take i)).length = i := by rw [known_len, List.length_take]; omega
  have hp := known_pre values (List.take_prefix i gs)
  have ea : litV (knownV values gs) a = litV (knownV values (gs.take i)) a := lit_pre hp (by omega) (by rw [hl]; omega)
  have eb : litV (knownV values gs) b = litV (knownV values (gs.take i)) b := lit_pre hp (by omega) (by rw [hl]; omega)
  unfold valC
  rw [ea, eb]
  rfl
end Go.Proofs.YthkjjiijjedipaaDoor
