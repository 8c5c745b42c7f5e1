/- Texts of the proof: GA G0 G1 G2 G3. -/
import Derived.Test.YthkjjiijjedipaaDoorProg
import Derived.WalkKit
import Derived.WalkSpells
import Derived.WalkLawsBesides
import Derived.Deep.QuietTactic
import Derived.Deep.LoopGhost
import Derived.Maps.AppendAt
import Derived.BigQuiet
import Derived.Lib.Hide
import Derived.IntWalk
import Derived.Laws.AppendOwn
import Derived.OwnWalk
import Derived.Maps.OwnIn
import Derived.Deep.RegionWith
import Derived.Lib.SliceRun
import Derived.Deep.RegionHeld3
import Derived.Laws.MakeOwn
import Derived.MapKept
import Derived.Laws.StructEq
namespace Go.Proofs.YthkjjiijjedipaaDoor

/-- A gate: its kind and its two numbers. -/
abbrev Gt := Int × Int × Int
def notR (r : Int) : Int := if r < 0 then -1 else if r % 2 = 0 then r + 1 else r - 1
/-- The first place of a gate. -/
def locG (x : Gt) : List Gt → Option Nat
  | [] => none
  | g :: gs => if g = x then some 0 else (locG x gs).map (· + 1)
def addG (gs : List Gt) (x : Gt) : List Gt × Int := match locG x gs with
  | some i => (gs, 2 * (i : Int))
  | none => if 20000 ≤ gs.length then (gs, -1) else (gs ++ [x], 2 * (gs.length : Int))
def inputC (gs : List Gt) (v : Int) : List Gt × Int := if v < 1 ∨ 20000 < v then (gs, -1) else addG gs (1, v, 0)
def andC (gs : List Gt) (a b : Int) : List Gt × Int :=
  if a < 0 ∨ b < 0 ∨ 2 * (gs.length : Int) ≤ a ∨ 2 * (gs.length : Int) ≤ b then (gs, -1)
  else if a = 1 ∨ b = 1 ∨ b = notR a then (gs, 1)
  else if a = 0 then (gs, b)
  else if b = 0 ∨ a = b then (gs, a)
  else addG gs (2, min a b, max a b)
def orC (gs : List Gt) (a b : Int) : List Gt × Int := ((andC gs (notR a) (notR b)).1, notR (andC gs (notR a) (notR b)).2)
def iffC (gs : List Gt) (a b : Int) : List Gt × Int :=
  andC (andC (andC gs a (notR b)).1 (notR a) b).1 (notR (andC gs a (notR b)).2) (notR (andC (andC gs a (notR b)).1 (notR a) b).2)
/-- A reference's value among the gates' values. -/
def litV (known : List Bool) (r : Int) : Bool := decide (0 ≤ r) && (match known[(r / 2).toNat]? with | some v => v != decide (r % 2 = 1) | none => false)
def gateV (values known : List Bool) (g : Gt) : Bool :=
  if g.1 = 1 then decide (1 ≤ g.2.1) && (values[(g.2.1 - 1).toNat]?).getD false
  else if g.1 = 2 then litV known g.2.1 && litV known g.2.2 else true
def knownV (values : List Bool) (gs : List Gt) : List Bool := gs.foldl (fun kn g => kn ++ [gateV values kn g]) []
def evalC (gs : List Gt) (values : List Bool) (r : Int) : Bool := decide (0 ≤ r ∧ r < 2 * (gs.length : Int)) && litV (knownV values (gs.take ((r / 2).toNat + 1))) r
def formG (g : Gt) (i : Nat) : Prop := (g.1 = 1 ∧ 1 ≤ g.2.1 ∧ g.2.1 ≤ 20000 ∧ g.2.2 = 0) ∨ (g.1 = 2 ∧ 2 ≤ g.2.1 ∧ g.2.1 < g.2.2 ∧ g.2.2 < 2 * (i : Int) ∧ g.2.1 / 2 ≠ g.2.2 / 2)
/-- A circuit that is well-formed. -/
structure Good (gs : List Gt) : Prop where
  zero : gs[0]? = some (0, 0, 0)
  form : ∀ (i : Nat) (g : Gt), 0 < i → gs[i]? = some g → formG g i
  one : ∀ (i j : Nat) (g : Gt), gs[i]? = some g → gs[j]? = some g → i = j
/-- A reference of a circuit. -/
def Ok (gs : List Gt) (r : Int) : Prop := 0 ≤ r ∧ r < 2 * (gs.length : Int)

theorem Good.pos {gs : List Gt} (h : Good gs) : 1 ≤ gs.length := (List.getElem?_eq_some_iff.1 h.zero).1
theorem locG_some {x : Gt} : ∀ {gs : List Gt} {i : Nat}, locG x gs = some i → gs[i]? = some x
  | g :: gs, i, h => by
    unfold locG at h
    by_cases hg : g = x
    · rw [if_pos hg] at h; injection h with h; subst h; simp [hg]
    · rw [if_neg hg] at h
      cases hl : locG x gs with
      | none => rw [hl] at h; cases h
      | some j => rw [hl] at h; injection h with h; subst h; simpa using locG_some hl
theorem locG_none {x : Gt} : ∀ {gs : List Gt}, locG x gs = none → x ∉ gs
  | [], _ => by simp
  | g :: gs, h => by
    unfold locG at h
    by_cases hg : g = x
    · rw [if_pos hg] at h; cases h
    · rw [if_neg hg] at h
      cases hl : locG x gs with
      | none => have := locG_none hl; simp only [List.mem_cons, not_or]; exact ⟨fun e => hg e.symm, this⟩
      | some j => rw [hl] at h; cases h
theorem notR_ok {gs : List Gt} {r : Int} (h : Ok gs r) : Ok gs (notR r) := by
  obtain ⟨h1, h2⟩ := h
  unfold notR
  rw [if_neg (by omega)]
  split
  · exact ⟨by omega, by omega⟩
  · exact ⟨by omega, by omega⟩
theorem notR_even {r : Int} (h : 0 ≤ r) (h2 : r % 2 = 0) : notR r = r + 1 := by
  unfold notR
  rw [if_neg (by omega), if_pos h2]
theorem notR_odd {r : Int} (h : 0 ≤ r) (h2 : ¬ r % 2 = 0) : notR r = r - 1 := by
  unfold notR
  rw [if_neg (by omega), if_neg h2]
theorem notR_half {r : Int} (h : 0 ≤ r) : notR r / 2 = r / 2 := by
  unfold notR
  rw [if_neg (by omega)]
  split <;> omega
theorem notR_nonneg {r : Int} (h : 0 ≤ r) : 0 ≤ notR r := by
  unfold notR
  rw [if_neg (by omega)]
  split <;> omega

theorem good_new : Good [(0, 0, 0)] := by
  refine ⟨rfl, fun i g hi h => ?_, fun i j g h1 h2 => ?_⟩
  · have := (List.getElem?_eq_some_iff.1 h).1; simp at this; omega
  · have h3 := (List.getElem?_eq_some_iff.1 h1).1; have h4 := (List.getElem?_eq_some_iff.1 h2).1; simp at h3 h4; omega

/-- What an operation does to a circuit: it stays good, grows at its end, and its answer is a reference. -/
structure Step (gs : List Gt) (p : List Gt × Int) : Prop where
  good : Good p.1
  pre : gs <+: p.1
theorem Step.refl {gs : List Gt} (h : Good gs) (r : Int) : Step gs (gs, r) := ⟨h, List.prefix_refl _⟩
theorem step_add {gs : List Gt} (h : Good gs) {x : Gt} (hx : formG x gs.length) : Step gs (addG gs x) := by
  unfold addG
  cases hl : locG x gs with
  | some i => exact .refl h _
  | none =>
    by_cases hc : 20000 ≤ gs.length
    · rw [if_pos hc]; exact .refl h _
    · rw [if_neg hc]
      have hp := h.pos
      refine ⟨⟨?_, fun i g hi hg => ?_, fun i j g h1 h2 => ?_⟩, List.prefix_append _ _⟩
      · show (gs ++ [x])[0]? = _
        rw [List.getElem?_append_left (by omega)]; exact h.zero
      · replace hg : (gs ++ [x])[i]? = some g := hg
        rw [List.getElem?_append] at hg
        split at hg
        · exact h.form i g hi hg
        · have h3 := (List.getElem?_eq_some_iff.1 hg).1
          simp at h3
          have : i = gs.length := by omega
          subst this
          simp at hg
          subst hg
          exact hx
      · have hn := locG_none hl
        replace h1 : (gs ++ [x])[i]? = some g := h1
        replace h2 : (gs ++ [x])[j]? = some g := h2
        rw [List.getElem?_append] at h1 h2
        split at h1 <;> split at h2
        · exact h.one i j g h1 h2
        · have h3 := (List.getElem?_eq_some_iff.1 h2).1
          simp at h3
          have : j - gs.length = 0 := by omega
          rw [this] at h2
          simp at h2
          subst h2
          exact absurd (List.mem_of_getElem? h1) hn
        · have h3 := (List.getElem?_eq_some_iff.1 h1).1
          simp at h3
          have : i - gs.length = 0 := by omega
          rw [this] at h1
          simp at h1
          subst h1
          exact absurd (List.mem_of_getElem? h2) hn
        · have h3 := (List.getElem?_eq_some_iff.1 h1).1
          have h4 := (List.getElem?_eq_some_iff.1 h2).1
          simp at h3 h4
          omega
theorem add_ok {gs : List Gt} {x : Gt} (hl : gs.length < 20000) : Ok (addG gs x).1 (addG gs x).2 := by
  unfold addG Ok
  cases h : locG x gs with
  | some i =>
    have := (List.getElem?_eq_some_iff.1 (locG_some h)).1
    simp only
    omega
  | none =>
    simp only
    rw [if_neg (by omega)]
    simp
    omega
theorem step_input {gs : List Gt} (h : Good gs) (v : Int) : Step gs (inputC gs v) := by
  unfold inputC
  split
  · exact .refl h _
  · exact step_add h (.inl ⟨rfl, by simp only; omega, by simp only; omega, rfl⟩)
theorem step_and {gs : List Gt} (h : Good gs) (a b : Int) : Step gs (andC gs a b) := by
  unfold andC
  split
  · exact .refl h _
  · rename_i h1
    split
    · exact .refl h _
    · rename_i h2
      split
      · exact .refl h _
      · rename_i h3
        split
        · exact .refl h _
        · rename_i h4
          refine step_add h (.inr ⟨rfl, ?_, ?_, ?_, ?_⟩) <;> simp only
          · omega
          · omega
          · omega
          · have h5 : ¬ b = notR a := fun e => h2 (.inr (.inr e))
            unfold notR at h5
            rw [if_neg (by omega)] at h5
            split at h5 <;> omega
theorem Step.trans {gs : List Gt} {p q : List Gt × Int} (h1 : Step gs p) (h2 : Step p.1 q) : Step gs q := ⟨h2.good, h1.pre.trans h2.pre⟩
theorem step_or {gs : List Gt} (h : Good gs) (a b : Int) : Step gs (orC gs a b) := ⟨(step_and h _ _).good, (step_and h _ _).pre⟩
theorem step_iff {gs : List Gt} (h : Good gs) (a b : Int) : Step gs (iffC gs a b) := by
  have h1 := step_and h a (notR b)
  have h2 := step_and h1.good (notR a) b
  exact (h1.trans h2).trans (step_and h2.good _ _)
theorem Ok.grow {gs hs : List Gt} (hp : gs <+: hs) {r : Int} (h : Ok gs r) : Ok hs r := by
  have := hp.length_le
  unfold Ok at *
  omega
theorem input_ok {gs : List Gt} (hl : gs.length < 20000) {v : Int} (hv : 1 ≤ v) (hv2 : v ≤ 20000) : Ok (inputC gs v).1 (inputC gs v).2 := by
  unfold inputC
  rw [if_neg (by omega)]
  exact add_ok hl
theorem and_ok {gs : List Gt} (h : Good gs) (hl : gs.length < 20000) {a b : Int} (ha : Ok gs a) (hb : Ok gs b) : Ok (andC gs a b).1 (andC gs a b).2 := by
  have hp := h.pos
  have ha' := ha; have hb' := hb
  unfold Ok at ha' hb'
  unfold andC
  rw [if_neg (by omega)]
  split
  · unfold Ok; simp only; omega
  · split
    · exact hb
    · split
      · exact ha
      · exact add_ok hl
theorem and_len {gs : List Gt} (a b : Int) : (andC gs a b).1.length ≤ gs.length + 1 := by
  unfold andC addG
  split
  · simp
  · split
    · simp
    · split
      · simp
      · split
        · simp
        · split
          · simp
          · split <;> simp
theorem input_len {gs : List Gt} (v : Int) : (inputC gs v).1.length ≤ gs.length + 1 := by
  unfold inputC addG
  split
  · simp
  · split
    · simp
    · split <;> simp
theorem or_len {gs : List Gt} (a b : Int) : (orC gs a b).1.length ≤ gs.length + 1 := and_len _ _
theorem iff_len {gs : List Gt} (a b : Int) : (iffC gs a b).1.length ≤ gs.length + 3 := by
  have h1 := and_len (gs := gs) a (notR b)
  have h2 := and_len (gs := (andC gs a (notR b)).1) (notR a) b
  have h3 := and_len (gs := (andC (andC gs a (notR b)).1 (notR a) b).1) (notR (andC gs a (notR b)).2) (notR (andC (andC gs a (notR b)).1 (notR a) b).2)
  unfold iffC
  omega
theorem or_ok {gs : List Gt} (h : Good gs) (hl : gs.length < 20000) {a b : Int} (ha : Ok gs a) (hb : Ok gs b) : Ok (orC gs a b).1 (orC gs a b).2 := notR_ok (and_ok h hl (notR_ok ha) (notR_ok hb))
theorem iff_ok {gs : List Gt} (h : Good gs) (hl : gs.length < 19998) {a b : Int} (ha : Ok gs a) (hb : Ok gs b) : Ok (iffC gs a b).1 (iffC gs a b).2 := by
  have h1 := step_and h a (notR b)
  have h2 := step_and h1.good (notR a) b
  have l1 := and_len (gs := gs) a (notR b)
  have l2 := and_len (gs := (andC gs a (notR b)).1) (notR a) b
  have o1 := and_ok h (by omega) ha (notR_ok hb)
  have o2 := and_ok h1.good (by omega) ((notR_ok ha).grow h1.pre) (hb.grow h1.pre)
  exact and_ok h2.good (by omega) ((notR_ok o1).grow h2.pre) (notR_ok o2)

/- ---- values ---- -/
theorem known_snoc (values : List Bool) (gs : List Gt) (g : Gt) : knownV values (gs ++ [g]) = knownV values gs ++ [gateV values (knownV values gs) g] := by
  unfold knownV
  rw [List.foldl_append]
  rfl
theorem known_len (values : List Bool) : ∀ gs : List Gt, (knownV values gs).length = gs.length := by
  intro gs
  rw [← List.reverse_reverse gs]
  induction gs.reverse with
  | nil => rfl
  | cons g l ih => rw [List.reverse_cons, known_snoc, List.length_append, ih]; simp
theorem known_pre (values : List Bool) {gs hs : List Gt} (h : gs <+: hs) : knownV values gs <+: knownV values hs := by
  obtain ⟨t, rfl⟩ := h
  rw [← List.reverse_reverse t]
  induction t.reverse with
  | nil => simp
  | cons g l ih => rw [List.reverse_cons, ← List.append_assoc, known_snoc]; exact ih.trans (List.prefix_append _ _)
theorem lit_pre {k l : List Bool} (h : k <+: l) {r : Int} (h0 : 0 ≤ r) (hr : r < 2 * (k.length : Int)) : litV l r = litV k r := by
  obtain ⟨t, rfl⟩ := h
  unfold litV
  rw [List.getElem?_append_left (by omega)]
/-- A reference's value. -/
def valC (gs : List Gt) (values : List Bool) (r : Int) : Bool := litV (knownV values gs) r
theorem eval_val {gs : List Gt} {values : List Bool} {r : Int} (h : Ok gs r) : evalC gs values r = valC gs values r := by
  obtain ⟨h1, h2⟩ := h
  unfold evalC valC
  rw [decide_eq_true ⟨h1, h2⟩, Bool.true_and]
  refine (lit_pre (known_pre values (List.take_prefix _ _)) h1 ?_).symm
  rw [known_len, List.length_take]
  omega
theorem val_not {gs : List Gt} {values : List Bool} {r : Int} (h : Ok gs r) : valC gs values (notR r) = !valC gs values r := by
  obtain ⟨h1, h2⟩ := h
  have hh := notR_half h1
  have hn := notR_nonneg h1
  have hl := known_len values gs
  unfold valC litV
  rw [hh, decide_eq_true hn, decide_eq_true h1]
  obtain ⟨v, hv⟩ : ∃ v, (knownV values gs)[(r / 2).toNat]? = some v := ⟨_, List.getElem?_eq_getElem (by omega)⟩
  rw [hv]
  have hm : decide (notR r % 2 = 1) = !decide (r % 2 = 1) := by
    unfold notR
    rw [if_neg (by omega)]
    by_cases h3 : r % 2 = 0
    · rw [if_pos h3, decide_eq_true (by omega), decide_eq_false (by omega)]; rfl
    · rw [if_neg h3, decide_eq_false (by omega), decide_eq_true (by omega)]; rfl
  simp only [hm, Bool.true_and]
  cases v <;> cases decide (r % 2 = 1) <;> rfl
theorem val_at {gs : List Gt} {values : List Bool} {i : Nat} {g : Gt} (hg : gs[i]? = some g) : valC gs values (2 * (i : Int)) = gateV values (knownV values (gs.take i)) g := by
  have hi := (List.getElem?_eq_some_iff.1 hg).1
  have hp : gs.take i ++ [g] <+: gs := by
    refine ⟨gs.drop (i + 1), ?_⟩
    have : gs.take (i + 1) = gs.take i ++ [g] := by rw [List.take_add_one, hg]; rfl
    rw [← this, List.take_append_drop]
  have hl : (knownV values (gs.take i)).length = i := by rw [known_len, List.length_take]; omega
  have h1 := lit_pre (known_pre values hp) (r := 2 * (i : Int)) (by omega) (by rw [known_len, List.length_append, List.length_take]; simp; omega)
  unfold valC
  rw [h1, known_snoc]
  unfold litV
  rw [decide_eq_true (by omega), show ((2 * (i : Int)) / 2).toNat = i by omega, List.getElem?_append_right (by omega), hl, Nat.sub_self]
  simp only [List.getElem?_cons_zero, Bool.true_and]
  rw [decide_eq_false (by omega)]
  cases gateV values (knownV values (gs.take i)) g <;> rfl
theorem val_true {gs : List Gt} (h : Good gs) (values : List Bool) : valC gs values 0 = true := by
  have := val_at (values := values) h.zero
  simpa [gateV] using this
theorem val_false {gs : List Gt} (h : Good gs) (values : List Bool) : valC gs values 1 = false := by
  have hp := h.pos
  have := val_not (gs := gs) (values := values) (r := 0) ⟨by omega, by omega⟩
  rw [val_true h] at this
  exact this
theorem val_and_gate {gs : List Gt} (h : Good gs) {values : List Bool} {i : Nat} {a b : Int} (hg : gs[i]? = some (2, a, b)) : valC gs values (2 * (i : Int)) = (valC gs values a && valC gs values b) := by
  have hi := (List.getElem?_eq_some_iff.1 hg).1
  have h0 : 0 < i := by
    cases i with
    | zero => rw [h.zero] at hg; cases hg
    | succ n => omega
  rw [val_at hg]
  have hf := h.form i _ h0 hg
  rcases hf with hf | ⟨_, h1, h2, h3, _⟩
  · simp at hf
  simp only at h1 h2 h3
  have hl : (knownV values (gs.take i)).length = i := by rw [known_len, List.length_take]; omega
  have hp := known_pre values (List.take_prefix i gs)
  have ea : litV (knownV values gs) a = litV (knownV values (gs.take i)) a := lit_pre hp (by omega) (by rw [hl]; omega)
  have eb : litV (knownV values gs) b = litV (knownV values (gs.take i)) b := lit_pre hp (by omega) (by rw [hl]; omega)
  unfold valC
  rw [ea, eb]
  rfl
end Go.Proofs.YthkjjiijjedipaaDoor

namespace Go.Proofs.YthkjjiijjedipaaDoor
open Go.RowKit

theorem grown_drewN (w : World) (n : Nat) (r : Option Nat) : w.grownBy (w.drewN n) r := ⟨rfl, rfl, rfl, Nat.le_refl _, fun _ _ _ => rfl⟩
theorem grown_refl (w : World) (r : Option Nat) : w.grownBy w r := ⟨rfl, rfl, rfl, Nat.le_refl _, fun _ _ _ => rfl⟩
theorem info3 : (Tryd.prog.info? 3).map (fun i => (i.zero, i.size, i.bytes)) = some (some (.int .i64 0), 1, 8) := by kernel_rfl
theorem grown_set (w : World) (b o : Nat) (v : Value) : w.grownBy (w.setCell ⟨b, o, none⟩ v) (some b) :=
  ⟨rfl, rfl, rfl, by simp [World.setCell], fun k _ hk => Below.heap_setCell _ _ _ _ (fun e => hk (by rw [e]))⟩
theorem grown_own {w w1 : World} {r : Option Nat} (h : w.grownBy w1 none) {w2 : World} (h2 : w1.grownBy w2 r) (hr : ∀ k, r = some k → w.heap.size ≤ k) : w.grownBy w2 none :=
  ⟨h2.os.trans h.os, h2.tape.trans h.tape, h2.output.trans h.output, Nat.le_trans h.size h2.size, fun k hk _ => by
    rw [h2.block k (by have := h.size; omega) (fun e => by have := hr k e.symm; omega)]; exact h.block k hk (by simp)⟩
theorem own_shape {w : World} {B n size : Nat} {e : TypeId} {v : Value} {xs : List Value} (h : w.ownsRow B e size v n xs) : ∃ a c, v = .slice a n c := by
  rcases h.2 with ⟨hv, h0⟩ | ⟨g, cap, cur, rfl, _⟩
  · exact ⟨none, 0, by rw [hv, h0]⟩
  · exact ⟨_, _, rfl⟩
theorem lies_lt {w : World} {a : Addr} {v : Value} (h : w.cell? a = some v) : a.block < w.heap.size := by
  unfold World.cell? at h
  split at h
  · rename_i hb; exact (Array.getElem?_eq_some_iff.1 hb).1
  · cases h
/-- P holds of whatever world has the blocks from lo up to hi as they lie in w. -/
def Span (lo hi : Nat) (w : World) (P : World → Prop) : Prop := hi ≤ w.heap.size ∧ ∀ W : World, (∀ b, lo ≤ b → b < hi → W.heap[b]? = w.heap[b]?) → P W
theorem Span.here {lo hi : Nat} {w : World} {P : World → Prop} (h : Span lo hi w P) : P w := h.2 w fun _ _ _ => rfl
theorem Span.off {lo hi : Nat} {w w' : World} {P : World → Prop} {r : Option Nat} (h : Span lo hi w P) (hg : w.grownBy w' r) (hr : ∀ x, r = some x → x < lo ∨ hi ≤ x) : Span lo hi w' P := by
  refine ⟨Nat.le_trans h.1 hg.size, fun W hW => h.2 W fun b hl hh => ?_⟩
  rw [hW b hl hh]
  refine hg.block b (Nat.lt_of_lt_of_le hh h.1) fun e => ?_
  have := hr b e.symm
  omega
theorem Span.grown {lo hi : Nat} {w w' : World} {P : World → Prop} (h : Span lo hi w P) (hg : w.grownBy w' none) : Span lo hi w' P := h.off hg fun _ e => by cases e
theorem Span.wide {lo hi lo' hi' : Nat} {w : World} {P : World → Prop} (h : Span lo hi w P) (hl : lo' ≤ lo) (hh : hi ≤ hi') (hs : hi' ≤ w.heap.size) : Span lo' hi' w P :=
  ⟨hs, fun W hW => h.2 W fun b h1 h2 => hW b (by omega) (by omega)⟩
theorem Span.map {lo hi : Nat} {w : World} {P Q : World → Prop} (h : Span lo hi w P) (f : ∀ W, P W → Q W) : Span lo hi w Q := ⟨h.1, fun W hW => f W (h.2 W hW)⟩
theorem add_at (g j : Nat) : (⟨g, 0, none⟩ : Addr).add j = ⟨g, j, none⟩ := by unfold Addr.add; split <;> simp_all
theorem size_of_heap {w W : World} {b : Nat} (h : W.heap[b]? = w.heap[b]?) (hb : b < w.heap.size) : b < W.heap.size := by
  rw [Array.getElem?_eq_getElem hb] at h
  exact (Array.getElem?_eq_some_iff.1 h).1
theorem grown_frozen {w w' : World} {b : Nat} (h : w.grownBy w' none) (hb : b < w.heap.size) (o : Nat) : w'.frozen? ⟨b, o, none⟩ = w.frozen? ⟨b, o, none⟩ :=
  World.frozen?_of_block (a := ⟨b, o, none⟩) (h.block b hb (by simp))
theorem own_grown {w w' : World} {B : Nat} {e : TypeId} {k n : Nat} {v : Value} {xs : List Value} (h : w.ownsRow B e k v n xs) (hg : w.grownBy w' none) : w'.ownsRow B e k v n xs :=
  h.kept hg (by cases hv : v.ownBlock <;> simp)
theorem one_cells (w : World) (u0 u1 : Value) (s : TypeId) :
    w.heap.size < (w.alloc (.cells #[u0, u1] s)).heap.size ∧ (w.alloc (.cells #[u0, u1] s)).cell? ⟨w.heap.size, 0, none⟩ = some u0 ∧ (w.alloc (.cells #[u0, u1] s)).cell? ⟨w.heap.size, 1, none⟩ = some u1 ∧
    (w.alloc (.cells #[u0, u1] s)).frozen? ⟨w.heap.size, 0, none⟩ = false ∧ (w.alloc (.cells #[u0, u1] s)).frozen? ⟨w.heap.size, 1, none⟩ = false := by
  refine ⟨by simp, by go_simp, by go_simp, by go_simp, by go_simp⟩
theorem two_cells (w : World) (u0 u1 v0 v1 : Value) (s t : TypeId) :
    w.heap.size + 1 < ((w.alloc (.cells #[u0, u1] s)).alloc (.cells #[v0, v1] t)).heap.size ∧
    ((w.alloc (.cells #[u0, u1] s)).alloc (.cells #[v0, v1] t)).cell? ⟨w.heap.size, 0, none⟩ = some u0 ∧ ((w.alloc (.cells #[u0, u1] s)).alloc (.cells #[v0, v1] t)).cell? ⟨w.heap.size, 1, none⟩ = some u1 ∧
    ((w.alloc (.cells #[u0, u1] s)).alloc (.cells #[v0, v1] t)).cell? ⟨w.heap.size + 1, 0, none⟩ = some v0 ∧ ((w.alloc (.cells #[u0, u1] s)).alloc (.cells #[v0, v1] t)).cell? ⟨w.heap.size + 1, 1, none⟩ = some v1 ∧
    ((w.alloc (.cells #[u0, u1] s)).alloc (.cells #[v0, v1] t)).frozen? ⟨w.heap.size + 1, 0, none⟩ = false ∧ ((w.alloc (.cells #[u0, u1] s)).alloc (.cells #[v0, v1] t)).frozen? ⟨w.heap.size + 1, 1, none⟩ = false := by
  refine ⟨by simp, by go_simp, by go_simp, by go_simp, by go_simp, by go_simp, by go_simp⟩
abbrev intCells (l : List Int) : List Value := l.map fun (z : Int) => Value.int .i64 z
/-- A row of integers that is read: where it is empty, nothing is known of its place. -/
def IntsW (w : World) (a : Option Addr) (c : Nat) (zs : List Int) : Prop :=
  zs.length ≤ c ∧ (zs = [] ∨ ∃ b o, a = some ⟨b, o, none⟩ ∧ ∀ (j : Nat) (z : Int), zs[j]? = some z → w.cell? ⟨b, o + j, none⟩ = some (.int .i64 z))
theorem IntsW.grown {w w' : World} {a : Option Addr} {c : Nat} {zs : List Int} (h : IntsW w a c zs) (hg : w.grownBy w' none) : IntsW w' a c zs := by
  obtain ⟨hc, h | ⟨b, o, ha, hz⟩⟩ := h
  · exact ⟨hc, .inl h⟩
  · exact ⟨hc, .inr ⟨b, o, ha, fun j z hj => hg.cell (hz j z hj) (by simp)⟩⟩
theorem IntsW.at {w : World} {a : Option Addr} {c : Nat} {zs : List Int} (h : IntsW w a c zs) {i : Nat} {z : Int} (hz : zs[i]? = some z) : ∃ b o, a = some ⟨b, o, none⟩ ∧ w.cell? ⟨b, o + i, none⟩ = some (.int .i64 z) := by
  obtain ⟨_, h | ⟨b, o, ha, hc⟩⟩ := h
  · rw [h] at hz; simp at hz
  · exact ⟨b, o, ha, hc i z hz⟩
theorem intsW_nil (w : World) (a : Option Addr) (c : Nat) : IntsW w a c [] := ⟨Nat.zero_le _, .inl rfl⟩
/-- A row of integers that is read. -/
def Ints (w : World) (a : Option Addr) (c : Nat) (zs : List Int) : Prop :=
  zs.length ≤ c ∧ ((zs = [] ∧ a = none ∧ c = 0) ∨ ∃ b o, a = some ⟨b, o, none⟩ ∧ b < w.heap.size ∧ ∀ (j : Nat) (z : Int), zs[j]? = some z → w.cell? ⟨b, o + j, none⟩ = some (.int .i64 z))
theorem Ints.grown {w w' : World} {a : Option Addr} {c : Nat} {zs : List Int} (h : Ints w a c zs) (hg : w.grownBy w' none) : Ints w' a c zs := by
  obtain ⟨hc, h | ⟨b, o, ha, hb, hz⟩⟩ := h
  · exact ⟨hc, .inl h⟩
  · exact ⟨hc, .inr ⟨b, o, ha, Nat.lt_of_lt_of_le hb hg.size, fun j z hj => hg.cell (hz j z hj) (by simp)⟩⟩
theorem Ints.weak {w : World} {a : Option Addr} {c : Nat} {zs : List Int} (h : Ints w a c zs) : IntsW w a c zs := by
  obtain ⟨hc, h | ⟨b, o, ha, _, hz⟩⟩ := h
  · exact ⟨hc, .inl h.1⟩
  · exact ⟨hc, .inr ⟨b, o, ha, hz⟩⟩
theorem ints_nil (w : World) : Ints w none 0 [] := ⟨Nat.le_refl _, .inl ⟨rfl, rfl, rfl⟩⟩
theorem ints_span {w : World} {B : Nat} {v : Value} {l : List Int} (h : w.ownsRow B 3 1 v l.length (intCells l)) : ∃ a c, v = .slice a l.length c ∧ Span B w.heap.size w (fun W => Ints W a c l) := by
  have hc := @World.ownsRow.cells w B 3 1 v l.length _ h
  rcases h.2 with ⟨hv, h0⟩ | ⟨g, cap, cur, rfl, hb, hg, hnc, hcm, _⟩
  · have hl : l = [] := List.eq_nil_of_length_eq_zero h0
    subst hl
    exact ⟨none, 0, hv, Nat.le_refl _, fun W _ => ints_nil W⟩
  · have hlt := (Array.getElem?_eq_some_iff.1 hg).1
    refine ⟨_, _, rfl, Nat.le_refl _, fun W hW => ⟨hnc, .inr ⟨g, 0, rfl, size_of_heap (hW g hb hlt) hlt, fun j z hj => ?_⟩⟩⟩
    have := hc (g := g) rfl j (.int .i64 z) (by rw [intCells, List.getElem?_map, hj]; rfl)
    rw [add_at] at this
    rw [Nat.zero_add, World.cell?_of_block (hW g hb hlt)]; exact this
theorem own_ne {w : World} {B b : Nat} {e : TypeId} {size n : Nat} {v : Value} {xs : List Value} (h : w.ownsRow B e size v n xs) (hb : b < B) : v.ownBlock = none ∨ v.ownBlock ≠ some b := by
  cases hv : v.ownBlock with
  | none => exact .inl rfl
  | some k => have := (h.lt k hv).1; exact .inr (by simp; omega)

/-- A gate as a value. -/
abbrev gv (g : Gt) : Value := .agg #[.int .i64 g.1, .int .i64 g.2.1, .int .i64 g.2.2]
abbrev gateCells (l : List Gt) : List Value := l.flatMap fun g => [.int .i64 g.1, .int .i64 g.2.1, .int .i64 g.2.2]
theorem gateCells_len : ∀ l : List Gt, (gateCells l).length = l.length * 3
  | [] => rfl
  | g :: l => by rw [gateCells, List.flatMap_cons, List.length_append, show (l.flatMap fun g => [Value.int .i64 g.1, .int .i64 g.2.1, .int .i64 g.2.2]).length = l.length * 3 from gateCells_len l]; simp; omega
theorem gateCells_at : ∀ {l : List Gt} {j : Nat} {g : Gt}, l[j]? = some g → (gateCells l)[j * 3]? = some (.int .i64 g.1) ∧ (gateCells l)[j * 3 + 1]? = some (.int .i64 g.2.1) ∧ (gateCells l)[j * 3 + 2]? = some (.int .i64 g.2.2)
  | h :: l, 0, g, e => by
    simp at e
    subst e
    simp [gateCells]
  | h :: l, j + 1, g, e => by
    have ih := gateCells_at (l := l) (j := j) (g := g) (by simpa using e)
    have e1 : ∀ k, (gateCells (h :: l))[(j + 1) * 3 + k]? = (gateCells l)[j * 3 + k]? := fun k => by
      rw [gateCells, List.flatMap_cons, List.getElem?_append_right (by simp; omega)]
      congr 1
      simp
      omega
    have e0 := e1 0
    rw [Nat.add_zero, Nat.add_zero] at e0
    exact ⟨e0.trans ih.1, (e1 1).trans ih.2.1, (e1 2).trans ih.2.2⟩
/-- The cells of a gate. -/
def GateAt (w : World) (b o : Nat) (g : Gt) : Prop :=
  w.cell? ⟨b, o, none⟩ = some (.int .i64 g.1) ∧ w.cell? ⟨b, o + 1, none⟩ = some (.int .i64 g.2.1) ∧ w.cell? ⟨b, o + 2, none⟩ = some (.int .i64 g.2.2)
theorem GateAt.grown {w w' : World} {b o : Nat} {g : Gt} (h : GateAt w b o g) (hg : w.grownBy w' none) : GateAt w' b o g :=
  ⟨hg.cell h.1 (by simp), hg.cell h.2.1 (by simp), hg.cell h.2.2 (by simp)⟩
/-- A block of gates. -/
def Ty47 (w : World) (b : Nat) : Prop := ∃ cur fr, w.heap[b]? = some (.cells cur 58 fr)
theorem ty_alloc (w : World) (cs : Array Value) : Ty47 (w.alloc (.cells cs 58)) w.heap.size := ⟨cs, _, (Go.MapKept.heap_alloc w _).1⟩
theorem Ty47.lt {w : World} {b : Nat} (h : Ty47 w b) : b < w.heap.size := by
  obtain ⟨_, _, h⟩ := h
  exact (Array.getElem?_eq_some_iff.1 h).1
theorem Ty47.of {w w' : World} {b : Nat} (h : Ty47 w b) (e : w'.heap[b]? = w.heap[b]?) : Ty47 w' b := by
  obtain ⟨c, f, h⟩ := h
  exact ⟨c, f, e.trans h⟩
theorem Ty47.grown {w w' : World} {b : Nat} {r : Option Nat} (h : Ty47 w b) (hg : w.grownBy w' r) (hr : some b ≠ r) : Ty47 w' b := h.of (hg.block b h.lt hr)
theorem Ty47.set {w : World} {b : Nat} (h : Ty47 w b) (k : Nat) (v : Value) : Ty47 (w.setCell ⟨k, 0, none⟩ v) b := by
  obtain ⟨c, f, h⟩ := h
  by_cases e : b = k
  · subst e
    refine ⟨c.setIfInBounds 0 v, f, ?_⟩
    unfold World.setCell
    simp [Array.getElem?_modify, h]
  · exact (show Ty47 w b from ⟨c, f, h⟩).grown (grown_set w k 0 v) (fun e2 => e (by injection e2))
/-- A row of gates that is read: where it is empty, nothing is known of its place. -/
def GatesR (w : World) (a : Option Addr) (c : Nat) (gs : List Gt) : Prop :=
  gs.length ≤ c ∧ (gs = [] ∨ ∃ b o, a = some ⟨b, o, none⟩ ∧ ∀ (j : Nat) (g : Gt), gs[j]? = some g → GateAt w b (o + j * 3) g)
theorem GatesR.grown {w w' : World} {a : Option Addr} {c : Nat} {gs : List Gt} (h : GatesR w a c gs) (hg : w.grownBy w' none) : GatesR w' a c gs := by
  obtain ⟨hc, h | ⟨b, o, ha, hz⟩⟩ := h
  · exact ⟨hc, .inl h⟩
  · exact ⟨hc, .inr ⟨b, o, ha, fun j z hj => (hz j z hj).grown hg⟩⟩
theorem GatesR.at {w : World} {a : Option Addr} {c : Nat} {gs : List Gt} (h : GatesR w a c gs) {i : Nat} {g : Gt} (hz : gs[i]? = some g) : ∃ b o, a = some ⟨b, o, none⟩ ∧ GateAt w b (o + i * 3) g := by
  obtain ⟨_, h | ⟨b, o, ha, hc⟩⟩ := h
  · rw [h] at hz; simp at hz
  · exact ⟨b, o, ha, hc i g hz⟩
/-- A row of gates in a block of gates. -/
def GatesW (w : World) (a : Option Addr) (c : Nat) (gs : List Gt) : Prop :=
  gs.length ≤ c ∧ (gs = [] ∨ ∃ b o, a = some ⟨b, o, none⟩ ∧ Ty47 w b ∧ ∀ (j : Nat) (g : Gt), gs[j]? = some g → GateAt w b (o + j * 3) g)
theorem GatesW.weak {w : World} {a : Option Addr} {c : Nat} {gs : List Gt} (h : GatesW w a c gs) : GatesR w a c gs := by
  obtain ⟨hc, h | ⟨b, o, ha, _, hz⟩⟩ := h
  · exact ⟨hc, .inl h⟩
  · exact ⟨hc, .inr ⟨b, o, ha, hz⟩⟩
theorem GatesW.grown {w w' : World} {a : Option Addr} {c : Nat} {gs : List Gt} (h : GatesW w a c gs) (hg : w.grownBy w' none) : GatesW w' a c gs := by
  obtain ⟨hc, h | ⟨b, o, ha, ht, hz⟩⟩ := h
  · exact ⟨hc, .inl h⟩
  · exact ⟨hc, .inr ⟨b, o, ha, ht.grown hg (by simp), fun j z hj => (hz j z hj).grown hg⟩⟩
theorem GatesW.at {w : World} {a : Option Addr} {c : Nat} {gs : List Gt} (h : GatesW w a c gs) {i : Nat} {g : Gt} (hz : gs[i]? = some g) : ∃ b o, a = some ⟨b, o, none⟩ ∧ GateAt w b (o + i * 3) g := h.weak.at hz
theorem gatesW_nil (w : World) (a : Option Addr) (c : Nat) : GatesW w a c [] := ⟨Nat.zero_le _, .inl rfl⟩
theorem infoG : (Tryd.prog.info? 58).map (fun i => (i.zero, i.size, i.bytes)) = some (some (.agg #[.int .i64 0, .int .i64 0, .int .i64 0]), 3, 24) := by kernel_rfl
theorem gates_span {w : World} {B : Nat} {v : Value} {l : List Gt} (h : w.ownsRow B 58 3 v l.length (gateCells l)) : ∃ a c, v = .slice a l.length c ∧ Span B w.heap.size w (fun W => GatesW W a c l) := by
  have hc := @World.ownsRow.cells w B 58 3 v l.length _ h
  rcases h.2 with ⟨hv, h0⟩ | ⟨g, cap, cur, rfl, hb, hg, hnc, hcm, _⟩
  · have hl : l = [] := List.eq_nil_of_length_eq_zero h0
    subst hl
    exact ⟨none, 0, hv, Nat.le_refl _, fun W _ => gatesW_nil W _ _⟩
  · have hlt := (Array.getElem?_eq_some_iff.1 hg).1
    refine ⟨_, _, rfl, Nat.le_refl _, fun W hW => ⟨hnc, .inr ⟨g, 0, rfl, ⟨_, _, (hW g hb hlt).trans hg⟩, fun j z hj => ?_⟩⟩⟩
    obtain ⟨e0, e1, e2⟩ := gateCells_at hj
    have h0 := hc (g := g) rfl _ _ e0
    have h1 := hc (g := g) rfl _ _ e1
    have h2 := hc (g := g) rfl _ _ e2
    rw [add_at] at h0 h1 h2
    rw [Nat.zero_add]
    exact ⟨by rw [World.cell?_of_block (hW g hb hlt)]; exact h0, by rw [World.cell?_of_block (hW g hb hlt)]; exact h1, by rw [World.cell?_of_block (hW g hb hlt)]; exact h2⟩
end Go.Proofs.YthkjjiijjedipaaDoor

namespace Go.Proofs.YthkjjiijjedipaaDoor
open Go.RowKit

theorem not26_calls (r : Int) (w : World) (h2 : r ≤ 9223372036854775807) : Calls Tryd.prog 18 #[.int .i64 r] w fun e w' => e = .returned (.int .i64 (notR r)) ∧ w' = w := by
  by_cases h0 : r < 0
  · have f : decide (r < 0) = true := decide_eq_true h0
    have HN := Lib.hid (show notR r = -1 by unfold notR; rw [if_pos h0])
    clear h0
    go_enter Tryd.func18, Tryd.ntmps18
    go_wp2_with fail
    go_ret
    exact ⟨by rw [HN.out]; rfl, rfl⟩
  · have f : decide (r < 0) = false := decide_eq_false h0
    obtain ⟨x, rfl⟩ : ∃ x : Nat, r = (x : Int) := ⟨r.toNat, by omega⟩
    by_cases h3 : x % 2 = 0
    · have hm : (x : Int).tmod 2 = 0 := by rw [Int.tmod_eq_emod_of_nonneg (by omega)]; omega
      have hw : IntKind.i64.wrap ((x : Int) + 1) = (x : Int) + 1 := IntWalk.i64_in _ (by omega)
      have HN := Lib.hid (notR_even (r := (x : Int)) (by omega) (by omega))
      go_enter Tryd.func18, Tryd.ntmps18
      go_wp2_with fail
      go_ret
      exact ⟨by rw [HN.out]; rfl, rfl⟩
    · have hm : (x : Int).tmod 2 = 1 := by rw [Int.tmod_eq_emod_of_nonneg (by omega)]; omega
      have hw : IntKind.i64.wrap ((x : Int) - 1) = (x : Int) - 1 := IntWalk.i64_in _ (by omega)
      have HN := Lib.hid (notR_odd (r := (x : Int)) (by omega) (by omega))
      go_enter Tryd.func18, Tryd.ntmps18
      go_wp2_with fail
      go_ret
      exact ⟨by rw [HN.out]; rfl, rfl⟩
end Go.Proofs.YthkjjiijjedipaaDoor

namespace Go.Proofs.YthkjjiijjedipaaDoor
open Go.RowKit

theorem eqI3 (d : Nat) (x y : Int) (w : World) : (Op.equalIn (d + 1) 3 (.int .i64 x) (.int .i64 y)).run Tryd.prog w = .ok (x == y) w := by
  rw [Op.equalIn]
  simp [go_sem]
set_option maxHeartbeats 4000000 in
theorem eqd47 (d : Nat) (x0 x1 x2 y0 y1 y2 : Int) (w : World) : (Op.equalIn (d + 1 + 1) 58 (.agg #[.int .i64 x0, .int .i64 x1, .int .i64 x2]) (.agg #[.int .i64 y0, .int .i64 y1, .int .i64 y2])).run Tryd.prog w = .ok (decide ((x0, x1, x2) = (y0, y1, y2))) w := by
  rw [Op.equalIn]
  simp only [Sem.run_bind, run_underlying Tryd.underlying58, Result.andThen_ok]
  have hst : Tryd.prog.stoodInHeld 58 = false := by kernel_rfl
  have hp : ∀ W : World, (program).run Tryd.prog W = .ok Tryd.prog W := fun W => rfl
  simp only [hp, Result.andThen_ok, hst, Bool.false_eq_true, if_false]
  have he := fun (x y : Int) (W : World) => eqI3 d x y W
  by_cases h0 : x0 = y0
  · by_cases h1 : x1 = y1
    · simp [part, go_sem, h0, h1, he]
      by_cases h2 : x2 = y2 <;> simp [h2]
    · simp [part, go_sem, h0, h1, he]
  · simp [part, go_sem, h0, he]
theorem eq47 (g h : Gt) (w : World) : (Op.equalIn 10000 58 (gv g) (gv h)).run Tryd.prog w = .ok (decide (g = h)) w := eqd47 9998 g.1 g.2.1 g.2.2 h.1 h.2.1 h.2.2 w
end Go.Proofs.YthkjjiijjedipaaDoor

namespace Go.Proofs.YthkjjiijjedipaaDoor
open Go.RowKit

def locI (x : Gt) (gs : List Gt) : Int := match locG x gs with | some i => (i : Int) | none => -1
theorem grown_any {w w' : World} (h : w.grownBy w' none) (r : Option Nat) : w.grownBy w' r := ⟨h.os, h.tape, h.output, h.size, fun k hk _ => h.block k hk (by simp)⟩
def GRow (B p : Nat) (w : World) (owned : Bool) (va : Option Addr) (vc : Nat) (gs : List Gt) : Prop :=
  if owned = true then w.ownsRow B 58 3 (.slice va gs.length vc) gs.length (gateCells gs) else Span 0 p w (fun W => GatesW W va vc gs)
/-- A growing circuit in a box. -/
structure Grow (B p : Nat) (w : World) (owned : Bool) (va : Option Addr) (vc : Nat) (gs : List Gt) (vis : Int) : Prop where
  c0 : w.cell? ⟨p, 0, none⟩ = some (.slice va gs.length vc)
  c1 : w.cell? ⟨p, 1, none⟩ = some (.bool owned)
  c2 : w.cell? ⟨p, 2, none⟩ = some (.map none)
  c3 : w.cell? ⟨p, 3, none⟩ = some (.int .i64 vis)
  fr : ∀ o, w.frozen? ⟨p, o, none⟩ = false
  low : p < B ∧ B ≤ w.heap.size
  row : GRow B p w owned va vc gs
theorem GRow.gates {B p : Nat} {w : World} {owned : Bool} {va : Option Addr} {vc : Nat} {gs : List Gt} (h : GRow B p w owned va vc gs) : GatesW w va vc gs := by
  unfold GRow at h
  cases owned with
  | true =>
    obtain ⟨a, c, e, hs⟩ := gates_span (show w.ownsRow B 58 3 (.slice va gs.length vc) gs.length (gateCells gs) from by simpa using h)
    cases e
    exact hs.here
  | false => exact (show Span 0 p w (fun W => GatesW W va vc gs) from by simpa using h).here
theorem GRow.off {B p : Nat} {w w' : World} {owned : Bool} {va : Option Addr} {vc : Nat} {gs : List Gt} {r : Option Nat} (h : GRow B p w owned va vc gs) (hg : w.grownBy w' r) (hr : ∀ x, r = some x → x = p) (hp : p < B) : GRow B p w' owned va vc gs := by
  unfold GRow at h ⊢
  cases owned with
  | true =>
    simp only [if_true] at h ⊢
    refine h.kept hg ?_
    cases hv : (Value.slice va gs.length vc).ownBlock with
    | none => exact .inl rfl
    | some k =>
      have h1 := (h.lt k hv).1
      exact .inr (fun e => by have := hr k e.symm; omega)
  | false =>
    simp only [Bool.false_eq_true, if_false] at h ⊢
    exact h.off hg fun x e => .inr (by have := hr x e; omega)
theorem Grow.grown {B p : Nat} {w w' : World} {owned : Bool} {va : Option Addr} {vc : Nat} {gs : List Gt} {vis : Int} (h : Grow B p w owned va vc gs vis) (hg : w.grownBy w' none) : Grow B p w' owned va vc gs vis :=
  ⟨hg.cell h.c0 (by simp), hg.cell h.c1 (by simp), hg.cell h.c2 (by simp), hg.cell h.c3 (by simp), fun o => (grown_frozen hg (lies_lt h.c0) o).trans (h.fr o), ⟨h.low.1, Nat.le_trans h.low.2 hg.size⟩, h.row.off hg (fun x e => by cases e) h.low.1⟩
theorem ne_at {p i j : Nat} (h : i ≠ j) : (⟨p, i, none⟩ : Addr) ≠ ⟨p, j, none⟩ := fun e => by injection e with _ e; exact h e
theorem gate_cells (w : World) (g : Gt) : GateAt (w.alloc (.cells #[.int .i64 g.1, .int .i64 g.2.1, .int .i64 g.2.2] 58)) w.heap.size 0 g := ⟨by go_simp, by go_simp, by go_simp⟩
theorem locI_none {gs : List Gt} {x : Gt} (h : ∀ i : Nat, gs[i]? ≠ some x) : locI x gs = -1 := by
  unfold locI
  cases hl : locG x gs with
  | none => rfl
  | some j => exact absurd (locG_some hl) (h j)

end Go.Proofs.YthkjjiijjedipaaDoor
