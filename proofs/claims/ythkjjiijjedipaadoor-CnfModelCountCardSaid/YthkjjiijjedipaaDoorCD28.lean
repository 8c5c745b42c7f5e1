/- Texts of the proof: S5. -/
import Derived.Lib.ItoaNum
namespace Go.Proofs.YthkjjiijjedipaaDoor
open Go.Lib

/-- A step: its kind, its literals, its symmetry. -/
abbrev StT := Int × List Int × Int

def letB (k : Int) : UInt8 := if k = 1 then 108 else if k = 2 then 100 else if k = 3 then 101 else if k = 4 then 115 else 0
def numB (x : Int) : List UInt8 := 32 :: itoa x
def numsB (l : List Int) : List UInt8 := l.flatMap numB
def encS (x : StT) : List UInt8 := letB x.1 :: ((if x.1 = 4 then numB x.2.2 else []) ++ (numsB x.2.1 ++ [32, 48, 10]))
def enc (l : List StT) : List UInt8 := l.flatMap encS

def isDig (c : UInt8) : Bool := decide (48 ≤ c.toNat) && decide (c.toNat ≤ 57)
def val (l : List UInt8) : Nat := l.foldl (fun a c => 10 * a + (c.toNat - 48)) 0
/-- The digits that the scanner passes: at most ten. -/
def digs (t : List UInt8) : List UInt8 := (t.take 10).takeWhile isDig
/-- A number behind a space and, perhaps, a minus. -/
def numT (neg : Bool) (t : List UInt8) : Option (Int × List UInt8) :=
  if (digs t).length = 0 ∨ 9 < (digs t).length ∨ (t.head? = some 48 ∧ (1 < (digs t).length ∨ neg = true)) then none
  else some (if neg then -(val (digs t) : Nat) else (val (digs t) : Nat), t.drop (digs t).length)
def numU (t : List UInt8) : Option (Int × List UInt8) :=
  match t with
  | 45 :: u => numT true u
  | u => numT false u
def numR (t : List UInt8) : Option (Int × List UInt8) :=
  match t with
  | 32 :: u => numU u
  | _ => none

theorem head_app {a : List UInt8} (b : List UInt8) (h : a ≠ []) : (a ++ b).head? = a.head? := by
  cases a with
  | nil => exact absurd rfl h
  | cons x a => rfl
theorem val_snoc (l : List UInt8) (c : UInt8) : val (l ++ [c]) = 10 * val l + (c.toNat - 48) := by simp [val]

theorem isDig_of {n : Nat} (h : n < 10) : isDig (UInt8.ofNat (48 + n)) = true ∧ (UInt8.ofNat (48 + n)).toNat = 48 + n := by
  have e : (UInt8.ofNat (48 + n)).toNat = 48 + n := by simp; omega
  exact ⟨by unfold isDig; rw [e]; simp; omega, e⟩

theorem decDigits_dig (u : Nat) : ∀ c ∈ decDigits u, isDig c = true := by
  induction u using Nat.strongRecOn with
  | _ u ih =>
    intro c hc
    rw [decDigits] at hc
    split at hc
    · rw [List.mem_singleton] at hc; subst hc; exact (isDig_of (by omega)).1
    · rw [List.mem_append] at hc
      rcases hc with hc | hc
      · exact ih _ (by omega) c hc
      · rw [List.mem_singleton] at hc; subst hc; exact (isDig_of (Nat.mod_lt _ (by omega))).1

theorem val_decDigits (u : Nat) : val (decDigits u) = u := by
  induction u using Nat.strongRecOn with
  | _ u ih =>
    rw [decDigits]
    split
    · rename_i h
      show 10 * 0 + ((UInt8.ofNat (48 + u)).toNat - 48) = u
      rw [(isDig_of h).2]; omega
    · rw [val_snoc, ih _ (by omega), (isDig_of (Nat.mod_lt u (by omega))).2]; omega

theorem decDigits_ne (u : Nat) : decDigits u ≠ [] := by
  rw [decDigits]; split <;> simp

theorem decDigits_head (u : Nat) : (decDigits u).head? = some 48 ↔ u = 0 := by
  induction u using Nat.strongRecOn with
  | _ u ih =>
    rw [decDigits]
    split
    · rename_i h
      simp only [List.head?_cons, Option.some.injEq]
      constructor
      · intro e
        have := (isDig_of h).2
        rw [e] at this
        simp at this; omega
      · rintro rfl; rfl
    · rw [head_app _ (decDigits_ne _), ih _ (by omega)]
      omega

theorem decDigits_length_le {u : Nat} (h : u < 1000000000) : (decDigits u).length ≤ 9 := by
  rw [decDigits_length]
  by_cases h9 : nDigits u ≤ 9
  · exact h9
  · exfalso
    have h1 : ∀ k, ∀ u, k + 1 ≤ nDigits u → 0 < k → 10 ^ k ≤ u := by
      intro k
      induction k with
      | zero => intro u _ h; omega
      | succ k ih =>
        intro u hu _
        by_cases hs : u < 10
        · rw [nDigits_small hs] at hu; omega
        · rw [nDigits_big hs] at hu
          by_cases hk : k = 0
          · subst hk; simp; omega
          · have := ih (u / 10) (by omega) (by omega)
            rw [Nat.pow_succ]; omega
    have := h1 9 u (by omega) (by omega)
    omega

/-- A text that does not begin with a digit. -/
def NoDig (t : List UInt8) : Prop := ∀ c, t.head? = some c → isDig c = false

theorem takeWhile_app {p : UInt8 → Bool} : ∀ {a b : List UInt8}, (∀ c ∈ a, p c = true) → (∀ c, b.head? = some c → p c = false) → (a ++ b).takeWhile p = a
  | [], [], _, _ => rfl
  | [], c :: b, _, h => by simp [h c rfl]
  | x :: a, b, h, hb => by
    rw [List.cons_append, List.takeWhile_cons, if_pos (h x (by simp)), takeWhile_app (fun c hc => h c (by simp [hc])) hb]

theorem digs_app {a t : List UInt8} (ha : ∀ c ∈ a, isDig c = true) (hl : a.length ≤ 9) (ht : NoDig t) : digs (a ++ t) = a := by
  unfold digs
  rw [List.take_append, List.take_of_length_le (by omega)]
  refine takeWhile_app ha (fun c hc => ht c ?_)
  cases t with
  | nil => simp at hc
  | cons x t =>
    obtain ⟨k, hk⟩ : ∃ k, 10 - a.length = k + 1 := ⟨9 - a.length, by omega⟩
    rw [hk] at hc
    simpa using hc

theorem numT_dec (neg : Bool) (u : Nat) (t : List UInt8) (hu : u < 1000000000) (h0 : neg = true → u ≠ 0) (ht : NoDig t) :
    numT neg (decDigits u ++ t) = some (if neg then -(u : Int) else (u : Int), t) := by
  have hd := digs_app (decDigits_dig u) (decDigits_length_le hu) ht
  unfold numT
  rw [hd, if_neg, val_decDigits]
  · simp
  · rintro (h | h | ⟨h1, h2⟩)
    · exact decDigits_ne u (List.eq_nil_of_length_eq_zero h)
    · have := decDigits_length_le hu; omega
    · rw [head_app _ (decDigits_ne u), decDigits_head] at h1
      subst h1
      rcases h2 with h2 | h2
      · rw [decDigits, dif_pos (by omega)] at h2; simp at h2
      · exact h0 h2 rfl

theorem numR_enc (x : Int) (t : List UInt8) (hx : -1000000000 < x ∧ x < 1000000000) (ht : NoDig t) : numR (numB x ++ t) = some (x, t) := by
  unfold numB numR itoa
  rw [List.cons_append]
  simp only
  split
  · rename_i h
    rw [List.cons_append]
    simp only [numU]
    rw [numT_dec true x.natAbs t (by omega) (by omega) ht]
    simp only [if_true]
    rw [show -((x.natAbs : Nat) : Int) = x by omega]
  · rename_i h
    have hne := decDigits_ne x.toNat
    have hdg := decDigits_dig x.toNat
    have := numT_dec false x.toNat t (by omega) (by simp) ht
    simp only [Bool.false_eq_true, if_false] at this
    rw [show ((x.toNat : Nat) : Int) = x by omega] at this
    cases hdd : decDigits x.toNat with
    | nil => exact absurd hdd hne
    | cons c l =>
      rw [hdd] at this hdg
      have hc := hdg c (by simp)
      unfold numU
      split
      · rename_i heq
        simp at heq
        rw [heq.1] at hc
        simp [isDig] at hc
      · exact this

end Go.Proofs.YthkjjiijjedipaaDoor
