/- Programs over a growing circuit, plain: what a sequence of Ands answers. -/
import Derived.Test.YthagoihpppppkaaGB
namespace Go.Proofs.Ythagoihpppppkaa

/-- A sequence of Ands, each of whose answers is known to what follows. -/
inductive Pr (α : Type) where
  | ret (a : α) : Pr α
  | and (a b : Int) (k : Int → Pr α) : Pr α
namespace Pr
def run {α : Type} : Pr α → List Gt → List Gt × α
  | .ret a, gs => (gs, a)
  | .and a b k, gs => (k (andC gs a b).2).run (andC gs a b).1
def bind {α β : Type} : Pr α → (α → Pr β) → Pr β
  | .ret a, f => f a
  | .and a b k, f => .and a b (fun r => (k r).bind f)
theorem run_bind {α β : Type} (f : α → Pr β) : ∀ (p : Pr α) (gs : List Gt), (p.bind f).run gs = (f (p.run gs).2).run (p.run gs).1
  | .ret _, _ => rfl
  | .and _ _ k, _ => run_bind f (k _) _
/-- At most n Ands. -/
def most {α : Type} : Pr α → Nat → Prop
  | .ret _, _ => True
  | .and _ _ _, 0 => False
  | .and _ _ k, n + 1 => ∀ r, (k r).most n
/-- Every reference used is one of the circuit at that time, and Q holds at the end. -/
def safe {α : Type} : Pr α → List Gt → (List Gt → α → Prop) → Prop
  | .ret a, gs, Q => Q gs a
  | .and a b k, gs, Q => Ok gs a ∧ Ok gs b ∧ (k (andC gs a b).2).safe (andC gs a b).1 Q
/-- From constants come constants. -/
def cst {α : Type} : Pr α → (α → Prop) → Prop
  | .ret a, Q => Q a
  | .and a b k, Q => (a = 0 ∨ a = 1) ∧ (b = 0 ∨ b = 1) ∧ ∀ r, r = 0 ∨ r = 1 → (k r).cst Q
theorem most_mono {α : Type} : ∀ (p : Pr α) {m n : Nat}, m ≤ n → p.most m → p.most n
  | .ret _, _, _, _, _ => trivial
  | .and _ _ _, 0, _, _, h => h.elim
  | .and _ _ _, _ + 1, 0, hl, _ => absurd hl (by omega)
  | .and _ _ k, _ + 1, _ + 1, hl, h => fun r => most_mono (k r) (by omega) (h r)
theorem most_bind {α β : Type} {f : α → Pr β} {n : Nat} (hf : ∀ a, (f a).most n) : ∀ (p : Pr α) {m : Nat}, p.most m → (p.bind f).most (m + n)
  | .ret a, _, _ => most_mono _ (by omega) (hf a)
  | .and _ _ _, 0, h => h.elim
  | .and _ _ k, m + 1, h => by
    rw [show m + 1 + n = (m + n) + 1 by omega]
    exact fun r => most_bind hf (k r) (h r)
theorem len {α : Type} : ∀ (p : Pr α) {n : Nat} (gs : List Gt), p.most n → (p.run gs).1.length ≤ gs.length + n
  | .ret _, _, _, _ => Nat.le_add_right _ _
  | .and _ _ _, 0, _, h => h.elim
  | .and a b k, _ + 1, gs, h => by
    have h1 := len (k (andC gs a b).2) (andC gs a b).1 (h _)
    have h2 := @and_len gs a b
    exact Nat.le_trans h1 (by omega)
theorem step {α : Type} : ∀ (p : Pr α) {gs : List Gt}, Good gs → Good (p.run gs).1 ∧ gs <+: (p.run gs).1
  | .ret _, _, h => ⟨h, List.prefix_refl _⟩
  | .and a b k, gs, h => by
    have h1 := step_and h a b
    have h2 := step (k (andC gs a b).2) h1.good
    exact ⟨h2.1, h1.pre.trans h2.2⟩
theorem safe_run {α : Type} {Q : List Gt → α → Prop} : ∀ (p : Pr α) {gs : List Gt}, p.safe gs Q → Q (p.run gs).1 (p.run gs).2
  | .ret _, _, h => h
  | .and _ _ k, _, h => safe_run (k _) h.2.2
theorem safe_mono {α : Type} {Q R : List Gt → α → Prop} (hm : ∀ g a, Q g a → R g a) : ∀ (p : Pr α) {gs : List Gt}, p.safe gs Q → p.safe gs R
  | .ret _, _, h => hm _ _ h
  | .and _ _ k, _, h => ⟨h.1, h.2.1, safe_mono hm (k _) h.2.2⟩
theorem safe_bind {α β : Type} {f : α → Pr β} {Q : List Gt → β → Prop} : ∀ (p : Pr α) {gs : List Gt}, p.safe gs (fun g a => (f a).safe g Q) → (p.bind f).safe gs Q
  | .ret _, _, h => h
  | .and _ _ k, _, h => ⟨h.1, h.2.1, safe_bind (k _) h.2.2⟩
theorem again {α : Type} {Q : List Gt → α → Prop} : ∀ (p : Pr α) {n : Nat} {gs hs : List Gt}, p.safe gs Q → p.most n → gs.length + n ≤ 20000 → Good gs → Good hs → (p.run gs).1 <+: hs → p.run hs = (hs, (p.run gs).2)
  | .ret _, _, _, _, _, _, _, _, _, _ => rfl
  | .and _ _ _, 0, _, _, _, h, _, _, _, _ => h.elim
  | .and a b k, n + 1, gs, hs, h, hm, hl, hg, hh, hp => by
    have h1 := step_and hg a b
    have h2 := step (k (andC gs a b).2) h1.good
    have hpre : (andC gs a b).1 <+: hs := h2.2.trans hp
    have e := and_again (by omega) hh h.1 h.2.1 hpre (h1.pre.trans hpre)
    show (k (andC hs a b).2).run (andC hs a b).1 = _
    rw [e]
    exact again (k (andC gs a b).2) h.2.2 (hm _) (by have := @and_len gs a b; omega) h1.good hh hp
theorem cst_mono {α : Type} {Q R : α → Prop} (hm : ∀ a, Q a → R a) : ∀ (p : Pr α), p.cst Q → p.cst R
  | .ret _, h => hm _ h
  | .and _ _ k, h => ⟨h.1, h.2.1, fun r hr => cst_mono hm (k r) (h.2.2 r hr)⟩
theorem cst_bind {α β : Type} {f : α → Pr β} {Q : β → Prop} : ∀ (p : Pr α), p.cst (fun a => (f a).cst Q) → (p.bind f).cst Q
  | .ret _, h => h
  | .and _ _ k, h => ⟨h.1, h.2.1, fun r hr => cst_bind (k r) (h.2.2 r hr)⟩
theorem and_const {gs : List Gt} (h : Good gs) {a b : Int} (ha : a = 0 ∨ a = 1) (hb : b = 0 ∨ b = 1) : ∃ r, (r = 0 ∨ r = 1) ∧ andC gs a b = (gs, r) := by
  have hp := h.pos
  unfold andC
  rcases ha with rfl | rfl <;> rcases hb with rfl | rfl <;> simp [notR] <;> omega
theorem cst_run {α : Type} {Q : α → Prop} : ∀ (p : Pr α) {gs : List Gt}, Good gs → p.cst Q → (p.run gs).1 = gs ∧ Q (p.run gs).2
  | .ret _, _, _, h => ⟨rfl, h⟩
  | .and a b k, gs, hg, h => by
    obtain ⟨r, hr, e⟩ := and_const hg h.1 h.2.1
    show ((k (andC gs a b).2).run (andC gs a b).1).1 = gs ∧ Q ((k (andC gs a b).2).run (andC gs a b).1).2
    rw [e]
    exact cst_run (k r) hg (h.2.2 r hr)
end Pr
def andP (a b : Int) : Pr Int := .and a b .ret
def orP (a b : Int) : Pr Int := .and (notR a) (notR b) (fun r => .ret (notR r))
theorem run_andP (gs : List Gt) (a b : Int) : (andP a b).run gs = andC gs a b := rfl
theorem run_orP (gs : List Gt) (a b : Int) : (orP a b).run gs = orC gs a b := rfl
theorem most_andP (a b : Int) : (andP a b).most 1 := fun _ => trivial
theorem most_orP (a b : Int) : (orP a b).most 1 := fun _ => trivial
/-- What an operation leaves: a circuit that has grown by at most n gates. -/
structure Grew (gs : List Gt) (n : Nat) (g : List Gt) : Prop where
  good : Good g
  pre : gs <+: g
  len : g.length ≤ gs.length + n
theorem Grew.refl {gs : List Gt} (h : Good gs) : Grew gs 0 gs := ⟨h, List.prefix_refl _, Nat.le_refl _⟩
theorem Grew.trans {gs g h : List Gt} {m n : Nat} (h1 : Grew gs m g) (h2 : Grew g n h) : Grew gs (m + n) h := ⟨h2.good, h1.pre.trans h2.pre, by have := h1.len; have := h2.len; omega⟩
theorem Grew.wide {gs g : List Gt} {m n : Nat} (h : Grew gs m g) (hm : m ≤ n) : Grew gs n g := ⟨h.good, h.pre, by have := h.len; omega⟩
theorem safe_andP {gs : List Gt} (h : Good gs) (hl : gs.length < 20000) {a b : Int} (ha : Ok gs a) (hb : Ok gs b) :
    (andP a b).safe gs (fun g r => Grew gs 1 g ∧ Ok g r ∧ ∀ values, valC g values r = (valC gs values a && valC gs values b)) :=
  ⟨ha, hb, ⟨(step_and h a b).good, (step_and h a b).pre, and_len a b⟩, and_ok h hl ha hb, fun _ => val_and h hl ha hb⟩
theorem safe_orP {gs : List Gt} (h : Good gs) (hl : gs.length < 20000) {a b : Int} (ha : Ok gs a) (hb : Ok gs b) :
    (orP a b).safe gs (fun g r => Grew gs 1 g ∧ Ok g r ∧ ∀ values, valC g values r = (valC gs values a || valC gs values b)) :=
  ⟨notR_ok ha, notR_ok hb, ⟨(step_or h a b).good, (step_or h a b).pre, or_len a b⟩, or_ok h hl ha hb, fun _ => val_or h hl ha hb⟩
theorem cst_andP {a b : Int} (ha : a = 0 ∨ a = 1) (hb : b = 0 ∨ b = 1) : (andP a b).cst (fun r => r = 0 ∨ r = 1) := ⟨ha, hb, fun _ hr => hr⟩
theorem not_const {a : Int} (ha : a = 0 ∨ a = 1) : notR a = 0 ∨ notR a = 1 := by rcases ha with rfl | rfl <;> simp [notR]
theorem cst_orP {a b : Int} (ha : a = 0 ∨ a = 1) (hb : b = 0 ∨ b = 1) : (orP a b).cst (fun r => r = 0 ∨ r = 1) := ⟨not_const ha, not_const hb, fun _ hr => not_const hr⟩
/-- A loop over a list, its state handed on. -/
def foldP {σ β : Type} (f : σ → β → Pr σ) : List β → σ → Pr σ
  | [], s => .ret s
  | x :: l, s => (f s x).bind (foldP f l)
theorem run_foldP_nil {σ β : Type} (f : σ → β → Pr σ) (s : σ) (gs : List Gt) : (foldP f [] s).run gs = (gs, s) := rfl
theorem run_foldP_cons {σ β : Type} (f : σ → β → Pr σ) (x : β) (l : List β) (s : σ) (gs : List Gt) : (foldP f (x :: l) s).run gs = (foldP f l ((f s x).run gs).2).run ((f s x).run gs).1 := Pr.run_bind _ _ _
theorem run_foldP_append {σ β : Type} (f : σ → β → Pr σ) : ∀ (l m : List β) (s : σ) (gs : List Gt), (foldP f (l ++ m) s).run gs = (foldP f m ((foldP f l s).run gs).2).run ((foldP f l s).run gs).1
  | [], _, _, _ => rfl
  | x :: l, m, s, gs => by rw [List.cons_append, run_foldP_cons, run_foldP_append f l m, run_foldP_cons]
theorem most_foldP {σ β : Type} {f : σ → β → Pr σ} {c : Nat} (hf : ∀ s x, (f s x).most c) : ∀ (l : List β) (s : σ), (foldP f l s).most (c * l.length)
  | [], _ => trivial
  | x :: l, s => by
    rw [List.length_cons, Nat.mul_succ, Nat.add_comm]
    exact Pr.most_bind (fun a => most_foldP hf l a) _ (hf s x)
theorem safe_foldP {σ β : Type} {f : σ → β → Pr σ} (I : List Gt → Nat → σ → Prop) : ∀ (l : List β) (k : Nat) (gs : List Gt) (s : σ), I gs k s → (∀ (j : Nat) (x : β) (g : List Gt) (t : σ), l[j]? = some x → I g (k + j) t → (f t x).safe g (fun g' t' => I g' (k + j + 1) t')) → (foldP f l s).safe gs (fun g t => I g (k + l.length) t)
  | [], _, _, _, h, _ => h
  | x :: l, k, gs, s, h, hs => by
    refine Pr.safe_bind _ (Pr.safe_mono (fun g a ha => ?_) _ (hs 0 x gs s rfl h))
    have := safe_foldP I l (k + 1) g a ha (fun j y g' t hj ht => by
      have := hs (j + 1) y g' t (by simpa using hj) (by rw [show k + (j + 1) = k + 1 + j by omega]; exact ht)
      rw [show k + (j + 1) + 1 = k + 1 + j + 1 by omega] at this
      exact this)
    rw [List.length_cons, show k + (l.length + 1) = k + 1 + l.length by omega]
    exact this
theorem cst_foldP {σ β : Type} {f : σ → β → Pr σ} {I : σ → Prop} (hf : ∀ s x, I s → (f s x).cst I) : ∀ (l : List β) (s : σ), I s → (foldP f l s).cst I
  | [], _, h => h
  | x :: l, s, h => Pr.cst_bind _ (Pr.cst_mono (fun a ha => cst_foldP hf l a ha) _ (hf s x h))
end Go.Proofs.Ythagoihpppppkaa
