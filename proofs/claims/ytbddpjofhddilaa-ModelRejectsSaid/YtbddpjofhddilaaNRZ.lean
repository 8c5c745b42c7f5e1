/- Periodic sequences: their shortest period, their shortest beginning; the trace of a model. -/
import Derived.Test.YtbddpjofhddilaaNRY
namespace Go.Proofs.Ytbddpjofhddilaa
open Go.RowKit

section
variable {α : Type}
/-- From a on, f has the period p. -/
def PerFrom (f : Nat → α) (a p : Nat) : Prop := ∀ t, a ≤ t → f (t + p) = f t
theorem PerFrom.mul {f : Nat → α} {a p : Nat} (h : PerFrom f a p) (m : Nat) : PerFrom f a (m * p) := by
  induction m with
  | zero => intro t _; rw [Nat.zero_mul, Nat.add_zero]
  | succ m ih =>
    intro t ht
    rw [Nat.add_mul, Nat.one_mul, ← Nat.add_assoc, h _ (by omega), ih t ht]
theorem agree_all {f g : Nat → α} {a b p q : Nat} (hf : PerFrom f a p) (hg : PerFrom g b q) (hp : 1 ≤ p) (hq : 1 ≤ q)
    (h : ∀ t, t < max a b + p * q → f t = g t) : ∀ t, f t = g t := by
  intro t
  induction t using Nat.strongRecOn with
  | _ t ih =>
    by_cases ht : t < max a b + p * q
    · exact h t ht
    · have hpq : 1 ≤ p * q := Nat.mul_pos hp hq
      have ha : a ≤ t - p * q := by have := Nat.le_max_left a b; omega
      have hb : b ≤ t - p * q := by have := Nat.le_max_right a b; omega
      have e1 := hf.mul q (t - p * q) ha
      have e2 := hg.mul p (t - p * q) hb
      rw [Nat.mul_comm q p, Nat.sub_add_cancel (by omega)] at e1
      rw [Nat.sub_add_cancel (by omega)] at e2
      rw [e1, e2]
      exact ih _ (by omega)
theorem PerFrom.down {f : Nat → α} {a b p q : Nat} (h : PerFrom f a p) (hp : 1 ≤ p) (h' : PerFrom f b q) : PerFrom f a q := by
  intro t ht
  have e1 := h.mul b t ht
  have e2 := h.mul b (t + q) (by omega)
  have hb : b ≤ b * p := Nat.le_mul_of_pos_right b hp
  have e3 := h' (t + b * p) (by omega)
  rw [← e2, ← e1, ← e3]
  congr 1
  omega
theorem PerFrom.mod {f : Nat → α} {a p n : Nat} (h : PerFrom f a p) (hn : PerFrom f a n) : PerFrom f a (n % p) := by
  intro t ht
  have e := h.mul (n / p) (t + n % p) (by omega)
  have h1 := Nat.div_add_mod n p
  have e2 : t + n % p + n / p * p = t + n := by rw [Nat.mul_comm (n / p) p]; omega
  rw [e2] at e
  rw [← e, hn t ht]
theorem PerFrom.at_mod {f : Nat → α} {a p : Nat} (h : PerFrom f a p) (i : Nat) : f (a + i) = f (a + i % p) := by
  have e := h.mul (i / p) (a + i % p) (by omega)
  have h1 := Nat.div_add_mod i p
  have e2 : a + i % p + i / p * p = a + i := by rw [Nat.mul_comm (i / p) p]; omega
  rw [e2] at e
  exact e

/-- The shortest period and the shortest beginning. -/
structure Shortest (f : Nat → α) (l p : Nat) : Prop where
  pos : 1 ≤ p
  per : PerFrom f l p
  minp : ∀ a q, 1 ≤ q → PerFrom f a q → p ≤ q
  minl : ∀ a, PerFrom f a p → l ≤ a
theorem Shortest.uniq {f : Nat → α} {l p l' p' : Nat} (h : Shortest f l p) (h' : Shortest f l' p') : l = l' ∧ p = p' := by
  have e : p = p' := Nat.le_antisymm (h.minp _ _ h'.pos h'.per) (h'.minp _ _ h.pos h.per)
  subst e
  exact ⟨Nat.le_antisymm (h.minl _ h'.per) (h'.minl _ h.per), rfl⟩
theorem Shortest.fits {f : Nat → α} {l p a q : Nat} (h : Shortest f l p) (hq : 1 ≤ q) (h' : PerFrom f a q) : l + p ≤ a + q := by
  have h1 := h.minp a q hq h'
  have h2 := h.minl a (h'.down hq h.per)
  omega

variable [DecidableEq α]
def sameAt (f : Nat → α) (a : Nat) (i j : Nat) : Bool := decide (f (a + i) = f (a + j))
theorem isPer_per {f : Nat → α} {a n p : Nat} (hn0 : n ≠ 0) (hn : PerFrom f a n) (h : isPer (sameAt f a) n p = true) : PerFrom f a p := by
  obtain ⟨h1, h2⟩ := isPer_iff.1 h
  have hp0 : p ≠ 0 := by rintro rfl; rw [Nat.mod_zero] at h1; exact hn0 h1
  have key : ∀ i, i < n → f (a + i) = f (a + i % p) := by
    intro i
    induction i using Nat.strongRecOn with
    | _ i ih =>
      intro hi
      by_cases hip : i < p
      · rw [Nat.mod_eq_of_lt hip]
      · have e1 := of_decide_eq_true (h2 i hi (by omega))
        rw [e1, ih (i - p) (by omega) (by omega), Nat.mod_eq_sub_mod (a := i) (by omega)]
  have key2 : ∀ i, f (a + i) = f (a + i % p) := by
    intro i
    rw [hn.at_mod i, key (i % n) (Nat.mod_lt _ (by omega)), Nat.mod_mod_of_dvd _ (Nat.dvd_of_mod_eq_zero h1)]
  intro t ht
  obtain ⟨i, rfl⟩ : ∃ i, t = a + i := ⟨t - a, by omega⟩
  rw [Nat.add_assoc, key2 (i + p), Nat.add_mod_right, ← key2 i]
theorem per_isPer {f : Nat → α} {a n p : Nat} (hd : n % p = 0) (h : PerFrom f a p) : isPer (sameAt f a) n p = true := by
  refine isPer_iff.2 ⟨hd, fun i _ hp => decide_eq_true ?_⟩
  have e := h (a + (i - p)) (by omega)
  rw [← e]
  congr 1
  omega
theorem shP_spec (S : Nat → Nat → Bool) (n : Nat) : ∀ (fuel p0 : Nat), p0 + fuel = n →
    p0 ≤ shP S n fuel p0 ∧ shP S n fuel p0 ≤ n ∧ (shP S n fuel p0 = n ∨ isPer S n (shP S n fuel p0) = true) ∧ ∀ q, p0 ≤ q → q < shP S n fuel p0 → isPer S n q = false
  | 0, p0, h => by
    rw [shP]
    have : p0 = n := by omega
    subst this
    exact ⟨Nat.le_refl _, Nat.le_refl _, .inl rfl, fun q h1 h2 => absurd h1 (by omega)⟩
  | fuel + 1, p0, h => by
    rw [shP]
    cases hp : isPer S n p0 with
    | true =>
      rw [if_pos rfl]
      exact ⟨Nat.le_refl _, by omega, .inr hp, fun q h1 h2 => absurd h1 (by omega)⟩
    | false =>
      rw [if_neg (by simp)]
      obtain ⟨h1, h2, h3, h4⟩ := shP_spec S n fuel (p0 + 1) (by omega)
      refine ⟨by omega, h2, h3, fun q hq1 hq2 => ?_⟩
      by_cases hq : q = p0
      · subst hq; exact hp
      · exact h4 q (by omega) hq2
/-- The shortest period. -/
def perN (f : Nat → α) (a n : Nat) : Nat := shP (sameAt f a) n (n - 1) 1
theorem perN_spec {f : Nat → α} {a n : Nat} (hn : 1 ≤ n) (h : PerFrom f a n) : 1 ≤ perN f a n ∧ perN f a n ≤ n ∧ PerFrom f a (perN f a n) ∧ ∀ b q, 1 ≤ q → PerFrom f b q → perN f a n ≤ q := by
  obtain ⟨h1, h2, h3, h4⟩ := shP_spec (sameAt f a) n (n - 1) 1 (by omega)
  refine ⟨h1, h2, ?_, ?_⟩
  · rcases h3 with h3 | h3
    · unfold perN; rw [h3]; exact h
    · exact isPer_per (by omega) h h3
  · intro b q hq hb
    replace hb := h.down hn hb
    clear b
    induction q using Nat.strongRecOn with
    | _ q ih =>
      by_cases hd : n % q = 0
      · refine Nat.le_of_not_lt fun hlt => ?_
        have := h4 q hq hlt
        rw [per_isPer hd hb] at this
        cases this
      · have hlt := Nat.mod_lt n hq
        have := ih (n % q) hlt (by omega) (hb.mod h)
        omega
/-- The shortest beginning. -/
def downN (f : Nat → α) (p : Nat) : Nat → Nat
  | 0 => 0
  | l + 1 => if f l = f (l + p) then downN f p l else l + 1
theorem downN_spec {f : Nat → α} {p : Nat} : ∀ {a : Nat}, PerFrom f a p → downN f p a ≤ a ∧ PerFrom f (downN f p a) p ∧ ∀ b, PerFrom f b p → downN f p a ≤ b
  | 0, h => ⟨Nat.le_refl _, h, fun _ _ => Nat.zero_le _⟩
  | l + 1, h => by
    rw [downN]
    by_cases he : f l = f (l + p)
    · rw [if_pos he]
      have hl : PerFrom f l p := by
        intro t ht
        by_cases htl : t = l
        · subst htl; exact he.symm
        · exact h t (by omega)
      obtain ⟨h1, h2, h3⟩ := downN_spec hl
      exact ⟨by omega, h2, h3⟩
    · rw [if_neg he]
      refine ⟨Nat.le_refl _, h, fun b hb => Nat.le_of_not_lt fun hlt => he ?_⟩
      exact (hb l (by omega)).symm
theorem shortest_is {f : Nat → α} {a n : Nat} (hn : 1 ≤ n) (h : PerFrom f a n) : Shortest f (downN f (perN f a n) a) (perN f a n) := by
  obtain ⟨h1, _, h3, h4⟩ := perN_spec hn h
  obtain ⟨_, g2, g3⟩ := downN_spec h3
  exact ⟨h1, g2, h4, g3⟩
end

/-- The trace of a model. -/
def trL (L : List (List Rl)) (lp : Nat) (t : Nat) : List Rl := atL L (lp : Int) (t : Int)
theorem trL_lt {L : List (List Rl)} {lp t : Nat} (h : t < L.length) : trL L lp t = L.getD t [] := by
  unfold trL atL indexI
  rw [if_pos (by omega), Int.toNat_natCast]
theorem trL_ge {L : List (List Rl)} {lp t : Nat} (hlp : lp < L.length) (h : L.length ≤ t) : trL L lp t = L.getD (lp + (t - lp) % (L.length - lp)) [] := by
  unfold trL atL indexI
  rw [if_neg (by omega)]
  congr 1
  have e1 : (t : Int) - (lp : Int) = ((t - lp : Nat) : Int) := by omega
  have e2 : (L.length : Int) - (lp : Int) = ((L.length - lp : Nat) : Int) := by omega
  rw [e1, e2, ← Int.natCast_emod, ← Int.natCast_add, Int.toNat_natCast]
theorem trL_loop {L : List (List Rl)} {lp : Nat} (hlp : lp < L.length) (i : Nat) : trL L lp (lp + i) = L.getD (lp + i % (L.length - lp)) [] := by
  by_cases h : lp + i < L.length
  · rw [trL_lt h, Nat.mod_eq_of_lt (by omega)]
  · rw [trL_ge hlp (by omega), Nat.add_sub_cancel_left]
theorem trL_per {L : List (List Rl)} {lp : Nat} (hlp : lp < L.length) : PerFrom (trL L lp) lp (L.length - lp) := by
  intro t ht
  obtain ⟨i, rfl⟩ : ∃ i, t = lp + i := ⟨t - lp, by omega⟩
  rw [Nat.add_assoc, trL_loop hlp, trL_loop hlp, Nat.add_mod_right]
theorem trL_made {f : Nat → List Rl} {l p : Nat} (hp : 1 ≤ p) (h : PerFrom f l p) (t : Nat) : trL ((List.range (l + p)).map f) l t = f t := by
  have hlen : ((List.range (l + p)).map f).length = l + p := by simp
  have hget : ∀ i, i < l + p → ((List.range (l + p)).map f).getD i [] = f i := by
    intro i hi
    rw [List.getD_eq_getElem?_getD, List.getElem?_map, List.getElem?_range hi]; rfl
  by_cases ht : t < l + p
  · rw [trL_lt (by rw [hlen]; exact ht), hget t ht]
  · obtain ⟨i, rfl⟩ : ∃ i, t = l + i := ⟨t - l, by omega⟩
    rw [trL_loop (by rw [hlen]; omega), hlen, Nat.add_sub_cancel_left, hget _ (by have := Nat.mod_lt i hp; omega), ← h.at_mod]
theorem agreeTo_all {L L' : List (List Rl)} {lp lp' : Nat} (h : lp < L.length) (h' : lp' < L'.length) :
    agreeTo L L' lp lp' (timesN L.length L'.length lp lp') = true ↔ ∀ t, trL L lp t = trL L' lp' t := by
  rw [agreeTo_iff]
  constructor
  · intro hh
    refine agree_all (trL_per h) (trL_per h') (by omega) (by omega) fun t ht => hh t ?_
    unfold timesN
    have e1 : (L.length : Int) - (lp : Int) = ((L.length - lp : Nat) : Int) := by omega
    have e2 : (L'.length : Int) - (lp' : Int) = ((L'.length - lp' : Nat) : Int) := by omega
    rw [e1, e2, ← Int.natCast_mul]
    omega
  · intro hh t _
    exact hh t
/-- The shortest model with the same trace. -/
def shPer (L : List (List Rl)) (lp : Nat) : Nat := perN (trL L lp) lp (L.length - lp)
def shLoop (L : List (List Rl)) (lp : Nat) : Nat := downN (trL L lp) (shPer L lp) lp
def shSts (L : List (List Rl)) (lp : Nat) : List (List Rl) := (List.range (shLoop L lp + shPer L lp)).map (trL L lp)
theorem sh_shortest {L : List (List Rl)} {lp : Nat} (h : lp < L.length) : Shortest (trL L lp) (shLoop L lp) (shPer L lp) := shortest_is (by omega) (trL_per h)
theorem sh_len {L : List (List Rl)} {lp : Nat} : (shSts L lp).length = shLoop L lp + shPer L lp := by simp [shSts]
theorem sh_loop_le {L : List (List Rl)} {lp : Nat} (h : lp < L.length) : shLoop L lp ≤ lp := (downN_spec (perN_spec (by omega) (trL_per h)).2.2.1).1
theorem sh_per_le {L : List (List Rl)} {lp : Nat} (h : lp < L.length) : 1 ≤ shPer L lp ∧ shPer L lp ≤ L.length - lp := ⟨(perN_spec (by omega) (trL_per h)).1, (perN_spec (by omega) (trL_per h)).2.1⟩
theorem sh_trace {L : List (List Rl)} {lp : Nat} (h : lp < L.length) (t : Nat) : trL (shSts L lp) (shLoop L lp) t = trL L lp t :=
  trL_made (sh_shortest h).pos (sh_shortest h).per t
theorem sh_same {L L' : List (List Rl)} {lp lp' : Nat} (h : lp < L.length) (h' : lp' < L'.length) (hh : ∀ t, trL L lp t = trL L' lp' t) : shSts L lp = shSts L' lp' ∧ shLoop L lp = shLoop L' lp' := by
  have e : trL L lp = trL L' lp' := funext hh
  obtain ⟨e1, e2⟩ := (sh_shortest h).uniq (e ▸ sh_shortest h')
  exact ⟨by unfold shSts; rw [e1, e2, e], e1⟩
theorem sh_same_iff {L L' : List (List Rl)} {lp lp' : Nat} (h : lp < L.length) (h' : lp' < L'.length) : (shSts L lp = shSts L' lp' ∧ shLoop L lp = shLoop L' lp') ↔ ∀ t, trL L lp t = trL L' lp' t := by
  refine ⟨fun ⟨h1, h2⟩ t => ?_, sh_same h h'⟩
  rw [← sh_trace h, ← sh_trace h', h1, h2]
end Go.Proofs.Ytbddpjofhddilaa
