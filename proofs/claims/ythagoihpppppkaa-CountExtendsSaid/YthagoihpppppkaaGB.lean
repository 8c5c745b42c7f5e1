/- Circuits, plain: sharing and simplifying. -/
import Derived.Test.YthagoihpppppkaaGA
namespace Go.Proofs.Ythagoihpppppkaa

theorem not_swap {a b : Int} (ha : 0 ≤ a) (hb : 0 ≤ b) : b = notR a ↔ a = notR b :=
  ⟨fun h => by rw [h, notR_notR ha], fun h => by rw [h, notR_notR hb]⟩
theorem and_comm' {gs : List Gt} (a b : Int) : andC gs a b = andC gs b a := by
  unfold andC
  by_cases h1 : a < 0 ∨ b < 0 ∨ 2 * (gs.length : Int) ≤ a ∨ 2 * (gs.length : Int) ≤ b
  · rw [if_pos h1, if_pos (show b < 0 ∨ a < 0 ∨ 2 * (gs.length : Int) ≤ b ∨ 2 * (gs.length : Int) ≤ a by omega)]
  · rw [if_neg h1, if_neg (show ¬ (b < 0 ∨ a < 0 ∨ 2 * (gs.length : Int) ≤ b ∨ 2 * (gs.length : Int) ≤ a) by omega)]
    have hs := not_swap (a := a) (b := b) (by omega) (by omega)
    by_cases h2 : a = 1 ∨ b = 1 ∨ b = notR a
    · have h2' : b = 1 ∨ a = 1 ∨ a = notR b := by
        rcases h2 with h | h | h
        · exact .inr (.inl h)
        · exact .inl h
        · exact .inr (.inr (hs.1 h))
      rw [if_pos h2, if_pos h2']
    · have h2' : ¬ (b = 1 ∨ a = 1 ∨ a = notR b) := fun h => h2 (by
        rcases h with h | h | h
        · exact .inr (.inl h)
        · exact .inl h
        · exact .inr (.inr (hs.2 h)))
      rw [if_neg h2, if_neg h2']
      by_cases ha : a = 0
      · rw [if_pos ha]
        by_cases hb : b = 0
        · rw [if_pos hb, ha, hb]
        · rw [if_neg hb, if_pos (.inl ha)]
      · rw [if_neg ha]
        by_cases hb : b = 0
        · rw [if_pos hb, if_pos (Or.inl hb)]
        · rw [if_neg hb]
          by_cases hab : a = b
          · rw [if_pos (.inr hab), if_pos (.inr hab.symm), hab]
          · rw [if_neg (show ¬ (b = 0 ∨ a = b) by omega), if_neg (show ¬ (a = 0 ∨ b = a) by omega), Int.min_comm, Int.max_comm]
theorem add_again {gs hs : List Gt} (hl : gs.length < 20000) (hg : Good hs) {x : Gt} (hp : (addG gs x).1 <+: hs) : addG hs x = (hs, (addG gs x).2) := by
  obtain ⟨i, hi, hx⟩ := addG_at (x := x) hl
  obtain ⟨t, ht⟩ := hp
  have hx2 : hs[i]? = some x := by
    rw [← ht, List.getElem?_append_left (List.getElem?_eq_some_iff.1 hx).1]; exact hx
  rw [hi]
  unfold addG
  rw [locG_is hg hx2]
theorem and_again {gs hs : List Gt} (hl : gs.length < 20000) (hg : Good hs) {a b : Int} (ha : Ok gs a) (hb : Ok gs b) (hp : (andC gs a b).1 <+: hs) (hpp : gs <+: hs) : andC hs a b = (hs, (andC gs a b).2) := by
  have h1 := ha; have h2 := hb
  have h3 := hpp.length_le
  unfold Ok at h1 h2
  revert hp
  unfold andC
  rw [if_neg (show ¬ (a < 0 ∨ b < 0 ∨ 2 * (gs.length : Int) ≤ a ∨ 2 * (gs.length : Int) ≤ b) by omega), if_neg (show ¬ (a < 0 ∨ b < 0 ∨ 2 * (hs.length : Int) ≤ a ∨ 2 * (hs.length : Int) ≤ b) by omega)]
  by_cases c1 : a = 1 ∨ b = 1 ∨ b = notR a
  · rw [if_pos c1, if_pos c1]; intro _; rfl
  · rw [if_neg c1, if_neg c1]
    by_cases c2 : a = 0
    · rw [if_pos c2, if_pos c2]; intro _; rfl
    · rw [if_neg c2, if_neg c2]
      by_cases c3 : b = 0 ∨ a = b
      · rw [if_pos c3, if_pos c3]; intro _; rfl
      · rw [if_neg c3, if_neg c3]
        intro hp
        exact add_again hl hg hp
theorem or_again {gs hs : List Gt} (hl : gs.length < 20000) (hg : Good hs) {a b : Int} (ha : Ok gs a) (hb : Ok gs b) (hp : (orC gs a b).1 <+: hs) (hpp : gs <+: hs) : orC hs a b = (hs, (orC gs a b).2) := by
  unfold orC
  rw [and_again hl hg (notR_ok ha) (notR_ok hb) hp hpp]
theorem or_comm' {gs : List Gt} (a b : Int) : orC gs a b = orC gs b a := by
  unfold orC
  rw [and_comm']
theorem iff_swap {gs : List Gt} (h : Good gs) (hl : gs.length < 19990) {a b : Int} (ha : Ok gs a) (hb : Ok gs b) : iffC (iffC gs a b).1 b a = iffC gs a b ∧ iffC (iffC gs a b).1 a b = iffC gs a b := by
  have h1 := step_and h a (notR b)
  have h2 := step_and h1.good (notR a) b
  have l1 := and_len (gs := gs) a (notR b)
  have l2 := and_len (gs := (andC gs a (notR b)).1) (notR a) b
  have o1 := and_ok h (by omega) ha (notR_ok hb)
  have o2 := and_ok h1.good (by omega) ((notR_ok ha).grow h1.pre) (hb.grow h1.pre)
  have h3 : Step (andC (andC gs a (notR b)).1 (notR a) b).1 (iffC gs a b) := step_and h2.good (notR (andC gs a (notR b)).2) (notR (andC (andC gs a (notR b)).1 (notR a) b).2)
  have hR : (iffC gs a b).2 = (andC (andC (andC gs a (notR b)).1 (notR a) b).1 (notR (andC gs a (notR b)).2) (notR (andC (andC gs a (notR b)).1 (notR a) b).2)).2 := rfl
  have p23 := h2.pre.trans h3.pre
  have e1 := and_again (gs := gs) (hs := (iffC gs a b).1) (by omega) h3.good ha (notR_ok hb) p23 (h1.pre.trans p23)
  have e2 := and_again (gs := (andC gs a (notR b)).1) (hs := (iffC gs a b).1) (by omega) h3.good ((notR_ok ha).grow h1.pre) (hb.grow h1.pre) h3.pre p23
  have e3 := and_again (gs := (andC (andC gs a (notR b)).1 (notR a) b).1) (hs := (iffC gs a b).1) (by omega) h3.good ((notR_ok o1).grow h2.pre) (notR_ok o2) (List.prefix_refl _) h3.pre
  rw [← hR] at e3
  constructor
  · show andC (andC (andC (iffC gs a b).1 b (notR a)).1 (notR b) a).1 (notR (andC (iffC gs a b).1 b (notR a)).2) (notR (andC (andC (iffC gs a b).1 b (notR a)).1 (notR b) a).2) = _
    rw [and_comm' b (notR a), e2]
    simp only
    rw [and_comm' (notR b) a, e1]
    simp only
    rw [and_comm', e3]
  · show andC (andC (andC (iffC gs a b).1 a (notR b)).1 (notR a) b).1 (notR (andC (iffC gs a b).1 a (notR b)).2) (notR (andC (andC (iffC gs a b).1 a (notR b)).1 (notR a) b).2) = _
    rw [e1]
    simp only
    rw [e2]
    simp only
    rw [e3]
theorem input_again {gs hs : List Gt} (hl : gs.length < 20000) (hg : Good hs) {v : Int} (hv : 1 ≤ v) (hv2 : v ≤ 20000) (hp : (inputC gs v).1 <+: hs) : inputC hs v = (hs, (inputC gs v).2) := by
  revert hp
  unfold inputC
  rw [if_neg (by omega), if_neg (by omega)]
  exact add_again hl hg

/- ---- simplifying ---- -/
section
variable {gs : List Gt} (h : Good gs) {x : Int} (hx : Ok gs x)
include h hx
omit hx in
theorem one_ok : Ok gs 1 ∧ Ok gs 0 := by have := h.pos; unfold Ok; omega
theorem and_true' : andC gs x 0 = (gs, x) := by
  have hp := h.pos
  unfold Ok at hx
  unfold andC
  rw [if_neg (by omega)]
  by_cases c1 : x = 1 ∨ (0 : Int) = 1 ∨ 0 = notR x
  · rw [if_pos c1]
    rcases c1 with rfl | c1 | c1
    · rfl
    · omega
    · have h2 := (not_swap (a := x) (b := 0) hx.1 (by omega)).1 c1
      rw [show notR 0 = 1 from rfl] at h2
      rw [h2]
  · rw [if_neg c1]
    by_cases c2 : x = 0
    · rw [if_pos c2, c2]
    · rw [if_neg c2, if_pos (.inl rfl)]
theorem and_false' : andC gs 1 x = (gs, 1) := by
  have hp := h.pos
  unfold Ok at hx
  unfold andC
  rw [if_neg (by omega), if_pos (.inl rfl)]
theorem and_self' : andC gs x x = (gs, x) := by
  have hp := h.pos
  have hne : x ≠ notR x := by
    unfold Ok at hx
    by_cases h2 : x % 2 = 0
    · rw [notR_even hx.1 h2]; omega
    · rw [notR_odd hx.1 h2]; omega
  unfold Ok at hx
  unfold andC
  rw [if_neg (by omega)]
  by_cases c1 : x = 1 ∨ x = 1 ∨ x = notR x
  · rw [if_pos c1]
    rcases c1 with rfl | rfl | c1
    · rfl
    · rfl
    · exact absurd c1 hne
  · rw [if_neg c1]
    by_cases c2 : x = 0
    · rw [if_pos c2, c2]
    · rw [if_neg c2, if_pos (.inr rfl)]
theorem and_not' : andC gs (notR x) x = (gs, 1) := by
  have hp := h.pos
  have hn := notR_ok hx
  have h2 := notR_notR hx.1
  unfold Ok at hx hn
  unfold andC
  rw [if_neg (by omega), if_pos (.inr (.inr h2.symm))]
theorem or_not' : orC gs x (notR x) = (gs, 0) := by
  unfold orC
  rw [notR_notR hx.1, and_not' h hx]
  rfl
theorem or_false' : orC gs x 1 = (gs, x) := by
  unfold orC
  rw [show notR 1 = 0 from rfl, and_true' h (notR_ok hx), notR_notR hx.1]
theorem iff_self' : iffC gs x x = (gs, 0) := by
  unfold iffC
  have e1 : andC gs x (notR x) = (gs, 1) := by rw [and_comm']; exact and_not' h hx
  rw [e1]
  simp only
  rw [and_not' h hx]
  simp only
  rw [show notR 1 = 0 from rfl, and_self' h (one_ok h).2]
theorem iff_true' : iffC gs x 0 = (gs, x) := by
  unfold iffC
  have e1 : andC gs x (notR 0) = (gs, 1) := by rw [and_comm']; exact and_false' h hx
  rw [e1]
  simp only
  rw [and_true' h (notR_ok hx)]
  simp only
  rw [show notR 1 = 0 from rfl, notR_notR hx.1, and_comm', and_true' h hx]
end
end Go.Proofs.Ythagoihpppppkaa
