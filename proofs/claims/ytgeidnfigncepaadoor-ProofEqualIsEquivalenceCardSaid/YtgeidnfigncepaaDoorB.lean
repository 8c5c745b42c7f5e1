/- Proofs are read from their text, and from no other text. -/
import Derived.Test.YtgeidnfigncepaaDoorA
namespace Go.Proofs.YtgeidnfigncepaaDoor
open Go.Lib

def litsR (t : List UInt8) : Option (List Int × List UInt8) :=
  match _h : numR t with
  | none => none
  | some (x, t') => if x = 0 then some ([], t') else match litsR t' with
    | none => none
    | some (l, t'') => some (x :: l, t'')
termination_by t.length
decreasing_by exact numR_shorter _h
theorem litsR_none {t : List UInt8} (h : numR t = none) : litsR t = none := by
  rw [litsR]; split
  · rfl
  · rename_i h2; rw [h] at h2; cases h2
theorem litsR_zero {t t' : List UInt8} (h : numR t = some (0, t')) : litsR t = some ([], t') := by
  rw [litsR]; split
  · rename_i h2; rw [h] at h2; cases h2
  · rename_i h2; rw [h] at h2; cases h2; simp
theorem litsR_more {t t' : List UInt8} {x : Int} (h : numR t = some (x, t')) (hx : x ≠ 0) : litsR t = (litsR t').map fun q => (x :: q.1, q.2) := by
  rw [litsR]; split
  · rename_i h2; rw [h] at h2; cases h2
  · rename_i h2; rw [h] at h2; cases h2
    rw [if_neg hx]
    cases litsR t' <;> rfl

def kindB (c : UInt8) : Int := if c = 108 then 1 else if c = 100 then 2 else if c = 101 then 3 else if c = 115 then 4 else 0
/-- What stands behind a step's head: the literals, up to the line's end. -/
def restR (k s : Int) (t : List UInt8) : Option (St × List UInt8) :=
  match litsR t with
  | some (l, 10 :: t') => some ((k, l, s), t')
  | _ => none
def stepR (t : List UInt8) : Option (St × List UInt8) :=
  match t with
  | [] => none
  | c :: u => if kindB c = 0 then none else if kindB c = 4 then match numR u with
      | none => none
      | some (s, u') => restR 4 s u'
    else restR (kindB c) 0 u

def GoodN (x : Int) : Prop := -1000000000 < x ∧ x < 1000000000
def GoodS (x : St) : Prop := (1 ≤ x.1 ∧ x.1 ≤ 4) ∧ (∀ y ∈ x.2.1, y ≠ 0 ∧ GoodN y) ∧ (x.1 = 4 → GoodN x.2.2) ∧ (x.1 ≠ 4 → x.2.2 = 0)
def GoodL (l : List St) : Prop := ∀ x ∈ l, GoodS x

theorem noDig_cons {c : UInt8} {t : List UInt8} (h : isDig c = false) : NoDig (c :: t) := fun d hd => by simp at hd; subst hd; exact h
theorem itoa_ne (x : Int) : itoa x ≠ [] := by
  unfold itoa; split
  · simp
  · exact decDigits_ne _
theorem numsB_nil : numsB [] = [] := rfl
theorem numsB_cons (x : Int) (l : List Int) : numsB (x :: l) = numB x ++ numsB l := rfl
theorem numsB_append (a b : List Int) : numsB (a ++ b) = numsB a ++ numsB b := by simp [numsB]
theorem numB_zero : numB 0 = [32, 48] := by
  unfold numB itoa; rw [if_neg (by omega), show (0 : Int).toNat = 0 from rfl, decDigits, dif_pos (by omega)]; rfl

theorem litsR_enc : ∀ (l : List Int) (t : List UInt8), (∀ y ∈ l, y ≠ 0 ∧ GoodN y) → litsR (numsB l ++ ([32, 48, 10] ++ t)) = some (l, 10 :: t)
  | [], t, _ => by
    rw [numsB_nil, List.nil_append]
    refine litsR_zero ?_
    have := numR_enc 0 (10 :: t) (by omega) (noDig_cons (by decide))
    rw [numB_zero] at this
    exact this
  | x :: l, t, h => by
    have hx := h x (by simp)
    have hn : NoDig (numsB l ++ ([32, 48, 10] ++ t)) := by
      cases l with
      | nil => exact noDig_cons (by decide)
      | cons y l => exact noDig_cons (by decide)
    rw [numsB_cons, List.append_assoc, litsR_more (numR_enc x _ hx.2 hn) hx.1, litsR_enc l t (fun y hy => h y (by simp [hy]))]
    rfl

theorem restR_enc (k s : Int) (l : List Int) (t : List UInt8) (h : ∀ y ∈ l, y ≠ 0 ∧ GoodN y) : restR k s (numsB l ++ ([32, 48, 10] ++ t)) = some ((k, l, s), t) := by
  unfold restR; rw [litsR_enc l t h]; rfl

theorem kind_let {k : Int} (h : 1 ≤ k ∧ k ≤ 4) : kindB (letB k) = k := by
  have : k = 1 ∨ k = 2 ∨ k = 3 ∨ k = 4 := by omega
  rcases this with rfl | rfl | rfl | rfl <;> decide
theorem let_kind {c : UInt8} (h : kindB c ≠ 0) : letB (kindB c) = c ∧ 1 ≤ kindB c ∧ kindB c ≤ 4 := by
  unfold kindB at h ⊢
  by_cases h1 : c = 108
  · subst h1; decide
  by_cases h2 : c = 100
  · subst h2; decide
  by_cases h3 : c = 101
  · subst h3; decide
  by_cases h4 : c = 115
  · subst h4; decide
  · simp [h1, h2, h3, h4] at h

theorem stepR_enc {x : St} (t : List UInt8) (h : GoodS x) : stepR (encS x ++ t) = some (x, t) := by
  obtain ⟨k, l, s⟩ := x
  obtain ⟨hk, hl, h4, hn4⟩ := h
  simp only at hk hl h4 hn4
  unfold encS
  simp only [List.cons_append, stepR, kind_let hk]
  rw [if_neg (by omega)]
  by_cases e : k = 4
  · subst e
    have hn : NoDig (numsB l ++ [32, 48, 10] ++ t) := by
      cases l with
      | nil => exact noDig_cons (by decide)
      | cons y l => exact noDig_cons (by decide)
    simp only [if_true, List.append_assoc] at hn ⊢
    rw [numR_enc s _ (h4 rfl) hn]
    exact restR_enc _ _ _ _ hl
  · rw [if_neg e, if_neg e, List.nil_append, List.append_assoc, restR_enc k 0 l t hl, hn4 e]

theorem litsR_sound : ∀ (n : Nat) (t t' : List UInt8) (l : List Int), t.length = n → litsR t = some (l, t') → t = numsB l ++ ([32, 48] ++ t') ∧ ∀ y ∈ l, y ≠ 0 ∧ GoodN y := by
  intro n
  induction n using Nat.strongRecOn with
  | _ n ih =>
    intro t t' l hn h
    cases hr : numR t with
    | none => rw [litsR_none hr] at h; cases h
    | some q =>
      obtain ⟨x, u⟩ := q
      obtain ⟨h1, h2, _⟩ := numR_sound hr
      by_cases hx : x = 0
      · subst hx
        rw [litsR_zero hr] at h
        simp only [Option.some.injEq, Prod.mk.injEq] at h
        obtain ⟨rfl, rfl⟩ := h
        exact ⟨by rw [h1, numB_zero]; rfl, fun y hy => by cases hy⟩
      · rw [litsR_more hr hx] at h
        cases hq : litsR u with
        | none => rw [hq] at h; cases h
        | some q =>
          obtain ⟨m, v⟩ := q
          rw [hq] at h
          simp only [Option.map_some, Option.some.injEq, Prod.mk.injEq] at h
          obtain ⟨rfl, rfl⟩ := h
          obtain ⟨e, hm⟩ := ih u.length (by rw [← hn]; exact numR_shorter hr) u v m rfl hq
          refine ⟨by rw [h1, e, numsB_cons, List.append_assoc], fun y hy => ?_⟩
          rcases List.mem_cons.1 hy with rfl | hy
          · exact ⟨hx, h2⟩
          · exact hm y hy

theorem restR_sound {k s : Int} {t t' : List UInt8} {x : St} (h : restR k s t = some (x, t')) : ∃ l, x = (k, l, s) ∧ t = numsB l ++ ([32, 48, 10] ++ t') ∧ ∀ y ∈ l, y ≠ 0 ∧ GoodN y := by
  unfold restR at h
  split at h
  · rename_i l u hq
    simp only [Option.some.injEq, Prod.mk.injEq] at h
    obtain ⟨rfl, rfl⟩ := h
    obtain ⟨h1, h2⟩ := litsR_sound _ _ _ _ rfl hq
    exact ⟨l, rfl, h1, h2⟩
  · cases h

theorem stepR_sound {t t' : List UInt8} {x : St} (h : stepR t = some (x, t')) : GoodS x ∧ t = encS x ++ t' := by
  unfold stepR at h
  split at h
  · cases h
  · rename_i c u
    by_cases h0 : kindB c = 0
    · rw [if_pos h0] at h; cases h
    rw [if_neg h0] at h
    obtain ⟨e1, e2, e3⟩ := let_kind h0
    by_cases h4 : kindB c = 4
    · rw [if_pos h4] at h
      split at h
      · cases h
      · rename_i s u' hr
        obtain ⟨l, rfl, hu, hl⟩ := restR_sound h
        obtain ⟨n1, n2, _⟩ := numR_sound hr
        refine ⟨⟨by simp, hl, fun _ => n2, fun h => absurd rfl h⟩, ?_⟩
        rw [n1, hu, ← e1, h4]
        simp [encS]
    · rw [if_neg h4] at h
      obtain ⟨l, rfl, hu, hl⟩ := restR_sound h
      refine ⟨⟨⟨e2, e3⟩, hl, fun h => absurd h h4, fun _ => rfl⟩, ?_⟩
      rw [hu]
      simp only [encS, if_neg h4, e1]
      simp
theorem encS_pos (x : St) : 0 < (encS x).length := by simp [encS]
theorem stepR_shorter {t t' : List UInt8} {x : St} (h : stepR t = some (x, t')) : t'.length < t.length := by
  rw [(stepR_sound h).2, List.length_append]
  have := encS_pos x
  omega

def dec (t : List UInt8) : Option (List St) :=
  if t = [] then some [] else
  match _h : stepR t with
  | none => none
  | some (x, t') => match dec t' with
    | none => none
    | some l => some (x :: l)
termination_by t.length
decreasing_by exact stepR_shorter _h
theorem dec_nil : dec [] = some [] := by rw [dec]; rfl
theorem dec_none {t : List UInt8} (ht : t ≠ []) (h : stepR t = none) : dec t = none := by
  rw [dec, if_neg ht]; split
  · rfl
  · rename_i h2; rw [h] at h2; cases h2
theorem dec_more {t t' : List UInt8} {x : St} (h : stepR t = some (x, t')) : dec t = (dec t').map fun l => x :: l := by
  have ht : t ≠ [] := by rintro rfl; cases h
  rw [dec, if_neg ht]; split
  · rename_i h2; rw [h] at h2; cases h2
  · rename_i h2; rw [h] at h2; cases h2
    cases dec t' <;> rfl

theorem enc_nil : enc [] = [] := rfl
theorem enc_cons (x : St) (l : List St) : enc (x :: l) = encS x ++ enc l := rfl
theorem enc_append (a b : List St) : enc (a ++ b) = enc a ++ enc b := by simp [enc]

theorem dec_enc : ∀ (l : List St), GoodL l → dec (enc l) = some l
  | [], _ => dec_nil
  | x :: l, h => by
    rw [enc_cons, dec_more (stepR_enc _ (h x (by simp))), dec_enc l (fun y hy => h y (by simp [hy]))]; rfl
theorem dec_sound : ∀ (n : Nat) (t : List UInt8) (l : List St), t.length = n → dec t = some l → GoodL l ∧ enc l = t := by
  intro n
  induction n using Nat.strongRecOn with
  | _ n ih =>
    intro t l hn h
    by_cases ht : t = []
    · subst ht
      rw [dec_nil] at h
      cases h
      exact ⟨fun x hx => (by cases hx), rfl⟩
    · cases hs : stepR t with
      | none => rw [dec_none ht hs] at h; cases h
      | some q =>
        obtain ⟨x, u⟩ := q
        rw [dec_more hs] at h
        cases hd : dec u with
        | none => rw [hd] at h; cases h
        | some m =>
          rw [hd] at h
          simp only [Option.map_some, Option.some.injEq] at h
          subst h
          obtain ⟨g1, g2⟩ := stepR_sound hs
          obtain ⟨g3, g4⟩ := ih u.length (by rw [← hn]; exact stepR_shorter hs) u m rfl hd
          refine ⟨fun y hy => ?_, by rw [enc_cons, g4, ← g2]⟩
          rcases List.mem_cons.1 hy with rfl | hy
          · exact g1
          · exact g3 y hy
theorem enc_inj {a b : List St} (ha : GoodL a) (hb : GoodL b) (h : enc a = enc b) : a = b := by
  have h1 := dec_enc a ha
  rw [h, dec_enc b hb] at h1
  cases h1; rfl

/-! ### Texts that are no text of a proof -/

/-- No two blanks side by side, no two line ends. -/
def Lone (t : List UInt8) : Prop := ∀ p q : List UInt8, ∀ c : UInt8, (c = 32 ∨ c = 10) → t ≠ p ++ c :: c :: q
theorem decDigits_mem {u : Nat} {c : UInt8} (h : c ∈ decDigits u) : c ≠ 32 ∧ c ≠ 10 := by
  have := decDigits_dig u c h
  constructor <;> · rintro rfl; revert this; decide
theorem itoa_mem {x : Int} {c : UInt8} (h : c ∈ itoa x) : c ≠ 32 ∧ c ≠ 10 := by
  unfold itoa at h
  split at h
  · rcases List.mem_cons.1 h with rfl | h
    · decide
    · exact decDigits_mem h
  · exact decDigits_mem h
/-- Pairs of neighbours. -/
def Pairs (R : UInt8 → UInt8 → Prop) : List UInt8 → Prop
  | a :: b :: t => R a b ∧ Pairs R (b :: t)
  | _ => True
theorem Pairs.of_app {R : UInt8 → UInt8 → Prop} : ∀ {p q : List UInt8} {a b : UInt8}, Pairs R (p ++ a :: b :: q) → R a b
  | [], _, _, _, h => h.1
  | [_], _, _, _, h => h.2.1
  | _ :: x :: p, _, _, _, h => Pairs.of_app (p := x :: p) h.2
theorem Pairs.app {R : UInt8 → UInt8 → Prop} : ∀ {p q : List UInt8}, Pairs R p → Pairs R q → (∀ a b, p.getLast? = some a → q.head? = some b → R a b) → Pairs R (p ++ q)
  | [], _, _, hq, _ => hq
  | [a], [], _, _, _ => trivial
  | [a], b :: q, _, hq, h => ⟨h a b rfl rfl, hq⟩
  | a :: b :: p, q, hp, hq, h => ⟨hp.1, Pairs.app (p := b :: p) hp.2 hq (fun x y hx hy => h x y (by simpa using hx) hy)⟩
def Ok2 (a b : UInt8) : Prop := (a = 32 ∨ a = 10) → a ≠ b
theorem pairs_plain : ∀ {t : List UInt8}, (∀ c ∈ t, c ≠ 32 ∧ c ≠ 10) → Pairs Ok2 t
  | [], _ => trivial
  | [_], _ => trivial
  | a :: b :: t, h => ⟨fun e => by have := h a (by simp); rcases e with e | e <;> simp [e] at this, pairs_plain (fun c hc => h c (by simp at hc ⊢; exact .inr hc))⟩
theorem last_mem {t : List UInt8} {c : UInt8} (h : t.getLast? = some c) : c ∈ t := List.mem_of_getLast? h
theorem numB_pairs (x : Int) : Pairs Ok2 (numB x) := by
  unfold numB
  have hne := itoa_ne x
  cases h : itoa x with
  | nil => exact absurd h hne
  | cons c l =>
    have hm : ∀ d ∈ c :: l, d ≠ 32 ∧ d ≠ 10 := fun d hd => itoa_mem (x := x) (by rw [h]; exact hd)
    exact ⟨fun _ e => (hm c (by simp)).1 e.symm, pairs_plain hm⟩
theorem numB_last {x : Int} {c : UInt8} (h : (numB x).getLast? = some c) : c ≠ 32 ∧ c ≠ 10 := by
  have hne := itoa_ne x
  unfold numB at h
  rw [List.getLast?_cons] at h
  cases hl : (itoa x).getLast? with
  | none => rw [List.getLast?_eq_none_iff] at hl; exact absurd hl hne
  | some d =>
    rw [hl] at h
    simp at h
    subst h
    exact itoa_mem (last_mem hl)
theorem ok2_of {a b : UInt8} (h : a ≠ 32 ∧ a ≠ 10) : Ok2 a b := fun e => by rcases e with e | e <;> simp [e] at h
theorem numsB_last {l : List Int} {c : UInt8} (h : (numsB l).getLast? = some c) : c ≠ 32 ∧ c ≠ 10 := by
  rcases List.eq_nil_or_concat l with rfl | ⟨q, x, rfl⟩
  · simp [numsB] at h
  · rw [List.concat_eq_append, numsB_append, List.getLast?_append] at h
    have hx : numsB [x] = numB x := by simp [numsB]
    rw [hx] at h
    cases hl : (numB x).getLast? with
    | none => rw [List.getLast?_eq_none_iff] at hl; simp [numB] at hl
    | some d =>
      rw [hl] at h
      simp at h
      subst h
      exact numB_last hl
theorem numsB_pairs : ∀ (l : List Int), Pairs Ok2 (numsB l)
  | [] => trivial
  | x :: l => by
    rw [numsB_cons]
    exact (numB_pairs x).app (numsB_pairs l) (fun a b ha _ => ok2_of (numB_last ha))
theorem letB_ok {k : Int} (h : 1 ≤ k ∧ k ≤ 4) : letB k ≠ 32 ∧ letB k ≠ 10 := by
  have : k = 1 ∨ k = 2 ∨ k = 3 ∨ k = 4 := by omega
  rcases this with rfl | rfl | rfl | rfl <;> decide
theorem encS_pairs {x : St} (h : 1 ≤ x.1 ∧ x.1 ≤ 4) : Pairs Ok2 (encS x) := by
  unfold encS
  refine Pairs.app (p := [_]) trivial ?_ (fun a b ha _ => ok2_of (by simp at ha; subst ha; exact letB_ok h))
  have h3 : Pairs Ok2 (numsB x.2.1 ++ [32, 48, 10]) := (numsB_pairs _).app (by refine ⟨?_, ?_, trivial⟩ <;> · intro; decide) (fun a b ha _ => ok2_of (numsB_last ha))
  split
  · exact (numB_pairs _).app h3 (fun a b ha _ => ok2_of (numB_last ha))
  · exact h3
theorem encS_head {x : St} (h : 1 ≤ x.1 ∧ x.1 ≤ 4) (t : List UInt8) : ∃ c, (encS x ++ t).head? = some c ∧ c ≠ 10 := ⟨_, rfl, (letB_ok h).2⟩
theorem encS_last (x : St) : (encS x).getLast? = some 10 := by
  have : encS x = (letB x.1 :: ((if x.1 = 4 then numB x.2.2 else []) ++ (numsB x.2.1 ++ [32, 48]))) ++ [10] := by simp [encS]
  rw [this, List.getLast?_concat]
theorem enc_pairs : ∀ {l : List St}, GoodL l → Pairs Ok2 (enc l)
  | [], _ => trivial
  | x :: l, h => by
    rw [enc_cons]
    refine (encS_pairs (h x (by simp)).1).app (enc_pairs (fun y hy => h y (by simp [hy]))) (fun a b ha hb => ?_)
    rw [encS_last] at ha
    cases ha
    cases l with
    | nil => simp [enc] at hb
    | cons y l =>
      rw [enc_cons] at hb
      obtain ⟨c, hc, hn⟩ := encS_head (h y (by simp)).1 (enc l)
      rw [hc] at hb
      cases hb
      exact fun _ e => hn e.symm
theorem enc_last {l : List St} (h : l ≠ []) : (enc l).getLast? = some 10 := by
  rcases List.eq_nil_or_concat l with rfl | ⟨q, x, rfl⟩
  · exact absurd rfl h
  · rw [List.concat_eq_append, enc_append, List.getLast?_append]
    have hx : enc [x] = encS x := by simp [enc]
    rw [hx, encS_last]; rfl
theorem dec_doubled {p q : List UInt8} {c : UInt8} (hc : c = 32 ∨ c = 10) : dec (p ++ c :: c :: q) = none := by
  cases h : dec (p ++ c :: c :: q) with
  | none => rfl
  | some l =>
    obtain ⟨h1, h2⟩ := dec_sound _ _ _ rfl h
    have := enc_pairs h1
    rw [h2] at this
    exact absurd rfl (this.of_app hc)
theorem dec_cut {l : List St} (hl : l ≠ []) (hg : GoodL l) : dec (enc l).dropLast = none := by
  cases h : dec (enc l).dropLast with
  | none => rfl
  | some m =>
    obtain ⟨h1, h2⟩ := dec_sound _ _ _ rfl h
    have hne : enc l ≠ [] := by
      intro e
      have := enc_last hl
      rw [e] at this; cases this
    have hlast := enc_last hl
    have hsplit := List.dropLast_concat_getLast hne
    rw [List.getLast?_eq_some_getLast hne] at hlast
    simp only [Option.some.injEq] at hlast
    rw [hlast, ← h2] at hsplit
    by_cases hm : m = []
    · subst hm
      exfalso
      cases l with
      | nil => exact hl rfl
      | cons x l =>
        rw [enc_cons] at hsplit
        have := congrArg List.length hsplit
        simp [enc, encS] at this
    · exfalso
      have h3 := enc_pairs hg
      have h4 := enc_last hm
      have hne2 : enc m ≠ [] := by intro e; rw [e] at h4; cases h4
      have h5 := List.dropLast_concat_getLast hne2
      rw [List.getLast?_eq_some_getLast hne2] at h4
      simp only [Option.some.injEq] at h4
      rw [h4] at h5
      rw [← hsplit, ← h5, List.append_assoc] at h3
      exact absurd rfl (h3.of_app (.inr rfl))
end Go.Proofs.YtgeidnfigncepaaDoor
