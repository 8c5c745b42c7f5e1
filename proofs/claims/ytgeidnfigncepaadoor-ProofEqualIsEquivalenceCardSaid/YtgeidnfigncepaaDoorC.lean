/- Well-formed proofs, prefixes, shifts. -/
import Derived.Test.YtgeidnfigncepaaDoorB
namespace Go.Proofs.YtgeidnfigncepaaDoor
open Go.Lib

/-- A literal over the variables up to v. -/
def unkB (v x : Int) : Bool := decide (x = 0) || (decide (v < x) || decide (x < -v))
def knownB (v : Int) (l : List Int) : Bool := !l.any (unkB v)
def okS (v : Int) (x : St) : Bool :=
  if x.1 = 1 ∨ x.1 = 2 then decide (x.2.2 = 0) && knownB v x.2.1
  else if x.1 = 4 then decide (0 ≤ x.2.2) && (decide (x.2.2 ≤ 20000) && knownB v x.2.1)
  else if x.1 = 3 then decide (2 ≤ x.2.1.length) && (decide (x.2.1.head? = some (v + 1)) && (decide (v + 1 ≤ 20000) && (knownB v x.2.1.tail && decide (x.2.2 = 0))))
  else false
def nextV (v : Int) (x : St) : Int := if x.1 = 3 then v + 1 else v
def okF (v : Int) : List St → Bool
  | [] => true
  | x :: l => okS v x && okF (nextV v x) l
def validB (v : Int) (l : List St) : Bool := decide (0 ≤ v ∧ v ≤ 20000 ∧ l.length ≤ 20000) && okF v l
def defs (l : List St) : Nat := (l.filter fun x => decide (x.1 = 3)).length

def vAfter (v : Int) (l : List St) : Int := l.foldl nextV v
theorem okF_append : ∀ (a b : List St) (v : Int), okF v (a ++ b) = (okF v a && okF (vAfter v a) b)
  | [], b, v => by simp [okF, vAfter]
  | x :: a, b, v => by
    simp only [List.cons_append, okF, okF_append a b, Bool.and_assoc]; rfl
theorem vAfter_defs : ∀ (a : List St) (v : Int), vAfter v a = v + defs a
  | [], v => by simp [vAfter, defs]
  | x :: a, v => by
    have h := vAfter_defs a (nextV v x)
    show vAfter (nextV v x) a = _
    rw [h]
    unfold nextV defs
    by_cases e : x.1 = 3
    · simp [e]; omega
    · simp [e]
theorem knownB_iff {v : Int} {l : List Int} : knownB v l = true ↔ ∀ x ∈ l, x ≠ 0 ∧ -v ≤ x ∧ x ≤ v := by
  unfold knownB unkB
  simp only [Bool.not_eq_true', List.any_eq_false, Bool.or_eq_true, decide_eq_true_eq]
  exact ⟨fun h x hx => by have := h x hx; omega, fun h x hx => by have := h x hx; omega⟩
theorem knownB_mono {v u : Int} {l : List Int} (h : knownB v l = true) (hv : v ≤ u) : knownB u l = true := by
  rw [knownB_iff] at h ⊢
  exact fun x hx => by have := h x hx; omega

/-- The four kinds of well-formed steps. -/
theorem okS_cases {v : Int} {x : St} (h : okS v x = true) :
    (x.1 ≠ 3 ∧ 1 ≤ x.1 ∧ x.1 ≤ 4 ∧ knownB v x.2.1 = true ∧ 0 ≤ x.2.2 ∧ x.2.2 ≤ 20000 ∧ (x.1 ≠ 4 → x.2.2 = 0)) ∨
    (x.1 = 3 ∧ 2 ≤ x.2.1.length ∧ x.2.1.head? = some (v + 1) ∧ v + 1 ≤ 20000 ∧ knownB v x.2.1.tail = true ∧ x.2.2 = 0) := by
  unfold okS at h
  split at h
  · simp only [Bool.and_eq_true, decide_eq_true_eq] at h
    exact .inl ⟨by omega, by omega, by omega, h.2, by omega, by omega, fun _ => h.1⟩
  · split at h
    · simp only [Bool.and_eq_true, decide_eq_true_eq] at h
      exact .inl ⟨by omega, by omega, by omega, h.2.2, h.1, h.2.1, fun e => by omega⟩
    · split at h
      · simp only [Bool.and_eq_true, decide_eq_true_eq] at h
        exact .inr ⟨‹_›, h.1, h.2.1, h.2.2.1, h.2.2.2.1, h.2.2.2.2⟩
      · cases h
theorem okS_mk {v : Int} {x : St} (h : x.1 ≠ 3 ∧ 1 ≤ x.1 ∧ x.1 ≤ 4 ∧ knownB v x.2.1 = true ∧ 0 ≤ x.2.2 ∧ x.2.2 ≤ 20000 ∧ (x.1 ≠ 4 → x.2.2 = 0)) : okS v x = true := by
  obtain ⟨h3, h1, h4, hk, hs, hs', h5⟩ := h
  unfold okS
  by_cases e : x.1 = 4
  · rw [if_neg (by omega), if_pos e]; simp [hk, hs, hs']
  · rw [if_pos (by omega)]; simp [hk, h5 e]
theorem okS_good {v : Int} {x : St} (hv : 0 ≤ v ∧ v ≤ 20000) (h : okS v x = true) : GoodS x ∧ (∀ y ∈ x.2.1, -20000 ≤ y ∧ y ≤ 20000) ∧ (0 ≤ x.2.2 ∧ x.2.2 ≤ 20000) ∧ (0 ≤ nextV v x ∧ nextV v x ≤ 20000) := by
  rcases okS_cases h with ⟨h3, h1, h4, hk, hs, hs', h5⟩ | ⟨h3, hl, hh, hv1, hk, hs⟩
  · rw [knownB_iff] at hk
    exact ⟨⟨⟨h1, h4⟩, fun y hy => ⟨(hk y hy).1, by have := hk y hy; unfold GoodN; omega⟩, fun _ => by unfold GoodN; omega, h5⟩, fun y hy => by have := hk y hy; omega, ⟨hs, hs'⟩, by unfold nextV; rw [if_neg h3]; exact hv⟩
  · rw [knownB_iff] at hk
    have hall : ∀ y ∈ x.2.1, y ≠ 0 ∧ -20000 ≤ y ∧ y ≤ 20000 := by
      intro y hy
      cases hx : x.2.1 with
      | nil => rw [hx] at hy; cases hy
      | cons a l =>
        rw [hx] at hy hh hk
        simp at hh
        rcases List.mem_cons.1 hy with rfl | hy
        · omega
        · have := hk y hy; omega
    exact ⟨⟨by omega, fun y hy => ⟨(hall y hy).1, by have := hall y hy; unfold GoodN; omega⟩, fun _ => by unfold GoodN; omega, fun _ => hs⟩, fun y hy => (hall y hy).2, by omega, by unfold nextV; rw [if_pos h3]; omega⟩
theorem okF_good : ∀ {l : List St} {v : Int}, 0 ≤ v ∧ v ≤ 20000 → okF v l = true → ∀ x ∈ l, GoodS x ∧ (∀ y ∈ x.2.1, -20000 ≤ y ∧ y ≤ 20000) ∧ (0 ≤ x.2.2 ∧ x.2.2 ≤ 20000)
  | [], _, _, _, x, hx => by cases hx
  | a :: l, v, hv, h, x, hx => by
    simp only [okF, Bool.and_eq_true] at h
    obtain ⟨g1, g2, g3, g4⟩ := okS_good hv h.1
    rcases List.mem_cons.1 hx with rfl | hx
    · exact ⟨g1, g2, g3⟩
    · exact okF_good g4 h.2 x hx
theorem validB_range {v : Int} {l : List St} (h : validB v l = true) : (0 ≤ v ∧ v ≤ 20000 ∧ l.length ≤ 20000) ∧ okF v l = true := by
  simp only [validB, Bool.and_eq_true, decide_eq_true_eq] at h
  exact h
theorem validB_good {v : Int} {l : List St} (h : validB v l = true) : GoodL l := by
  obtain ⟨h1, h2⟩ := validB_range h
  exact fun x hx => (okF_good ⟨h1.1, h1.2.1⟩ h2 x hx).1

/-! ### Prefixes -/
theorem validB_take {v : Int} {l : List St} (h : validB v l = true) (k : Nat) : validB v (l.take k) = true ∧ validB (v + defs (l.take k)) (l.drop k) = true := by
  obtain ⟨h1, h2⟩ := validB_range h
  rw [← List.take_append_drop k l, okF_append, Bool.and_eq_true, vAfter_defs] at h2
  have hv : ∀ {l : List St} {v : Int}, 0 ≤ v ∧ v ≤ 20000 → okF v l = true → 0 ≤ v + defs l ∧ v + defs l ≤ 20000 := by
    intro l
    induction l with
    | nil => intro v hv _; simpa [defs] using hv
    | cons x l ih =>
      intro v hv h
      simp only [okF, Bool.and_eq_true] at h
      have := ih (okS_good hv h.1).2.2.2 h.2
      rw [← vAfter_defs] at this ⊢
      exact this
  have h3 := hv ⟨h1.1, h1.2.1⟩ h2.1
  refine ⟨?_, ?_⟩
  · simp only [validB, Bool.and_eq_true, decide_eq_true_eq]
    exact ⟨⟨h1.1, h1.2.1, by rw [List.length_take]; omega⟩, h2.1⟩
  · simp only [validB, Bool.and_eq_true, decide_eq_true_eq]
    exact ⟨⟨h3.1, h3.2, by rw [List.length_drop]; omega⟩, h2.2⟩

/-! ### More variables -/
theorem okF_more : ∀ {l : List St} {v u : Int}, defs l = 0 → v ≤ u → okF v l = true → okF u l = true
  | [], _, _, _, _, _ => rfl
  | x :: l, v, u, hd, hv, h => by
    simp only [okF, Bool.and_eq_true] at h ⊢
    have hx : x.1 ≠ 3 := by intro e; simp [defs, e] at hd
    have hd' : defs l = 0 := by simp only [defs] at hd ⊢; simpa [hx] using hd
    have hn : ∀ t : Int, nextV t x = t := fun t => by unfold nextV; rw [if_neg hx]
    rw [hn] at h ⊢
    refine ⟨?_, okF_more hd' hv h.2⟩
    rcases okS_cases h.1 with g | g
    · exact okS_mk ⟨g.1, g.2.1, g.2.2.1, knownB_mono g.2.2.2.1 hv, g.2.2.2.2⟩
    · exact absurd g.1 hx
theorem okF_fixed : ∀ {l : List St} {v u : Int}, okF v l = true → okF u l = true → defs l ≠ 0 → v = u
  | [], _, _, _, _, hd => absurd rfl hd
  | x :: l, v, u, h1, h2, hd => by
    simp only [okF, Bool.and_eq_true] at h1 h2
    by_cases hx : x.1 = 3
    · rcases okS_cases h1.1 with g | g
      · exact absurd hx g.1
      · rcases okS_cases h2.1 with g' | g'
        · exact absurd hx g'.1
        · have := g.2.2.1
          rw [g'.2.2.1] at this
          simp at this; omega
    · have hn : ∀ t : Int, nextV t x = t := fun t => by unfold nextV; rw [if_neg hx]
      rw [hn] at h1 h2
      exact okF_fixed h1.2 h2.2 (by simp only [defs] at hd ⊢; simpa [hx] using hd)
theorem validB_more {v : Int} {l : List St} (h : validB v l = true) (m : Nat) (hm : v + m ≤ 20000) : validB (v + m) l = (decide (defs l = 0) || decide (m = 0)) := by
  obtain ⟨h1, h2⟩ := validB_range h
  by_cases hm0 : m = 0
  · subst hm0; simp [h]
  · by_cases hd : defs l = 0
    · rw [decide_eq_true hd, Bool.true_or]
      simp only [validB, Bool.and_eq_true, decide_eq_true_eq]
      exact ⟨by omega, okF_more hd (by omega) h2⟩
    · rw [decide_eq_false hd, decide_eq_false hm0, Bool.or_self]
      cases hq : validB (v + m) l with
      | false => rfl
      | true =>
        have := okF_fixed h2 (validB_range hq).2 hd
        omega

/-! ### Shifts -/
def shI (d x : Int) : Int := if x < 0 then x - d else x + d
def shS (d : Int) (x : St) : St := (x.1, x.2.1.map (shI d), x.2.2)
def shL (d : Int) (l : List St) : List St := l.map (shS d)
theorem okF_shift : ∀ {l : List St} {v d : Int}, 0 ≤ d → defs l = 0 → okF v l = true → okF (v + d) (shL d l) = true
  | [], _, _, _, _, _ => rfl
  | x :: l, v, d, h0, hd, h => by
    simp only [okF, Bool.and_eq_true, shL, List.map_cons] at h ⊢
    have hx : x.1 ≠ 3 := by intro e; simp [defs, e] at hd
    have hd' : defs l = 0 := by simp only [defs] at hd ⊢; simpa [hx] using hd
    have hn : ∀ t : Int, nextV t x = t := fun t => by unfold nextV; rw [if_neg hx]
    have hn' : ∀ t : Int, nextV t (shS d x) = t := fun t => by unfold nextV; rw [if_neg (by exact hx)]
    rw [hn] at h
    rw [hn']
    refine ⟨?_, okF_shift h0 hd' h.2⟩
    rcases okS_cases h.1 with g | g
    · refine okS_mk ⟨g.1, g.2.1, g.2.2.1, ?_, g.2.2.2.2⟩
      have hk := knownB_iff.1 g.2.2.2.1
      rw [knownB_iff]
      intro y hy
      obtain ⟨z, hz, rfl⟩ := List.mem_map.1 hy
      have := hk z hz
      unfold shI
      split <;> omega
    · exact absurd g.1 hx
theorem validB_shift {v d : Int} {l : List St} (h : validB v l = true) (hd : defs l = 0) (h0 : 0 ≤ d) (hv : v + d ≤ 20000) : validB (v + d) (shL d l) = true := by
  obtain ⟨h1, h2⟩ := validB_range h
  simp only [validB, Bool.and_eq_true, decide_eq_true_eq]
  exact ⟨⟨by omega, hv, by simpa [shL] using h1.2.2⟩, okF_shift h0 hd h2⟩
theorem shL_back {d : Int} (h0 : 0 ≤ d) {l : List St} (hn : ∀ x ∈ l, ∀ y ∈ x.2.1, y ≠ 0) : shL (-d) (shL d l) = l := by
  unfold shL
  rw [List.map_map]
  refine (List.map_congr_left (g := id) fun x hx => ?_).trans (List.map_id _)
  obtain ⟨k, m, s⟩ := x
  simp only [Function.comp, shS, List.map_map, id]
  congr 2
  refine (List.map_congr_left (g := id) fun y hy => ?_).trans (List.map_id _)
  have := hn _ hx y hy
  simp only [Function.comp, shI, id]
  split <;> split <;> omega
theorem shL_add {d e : Int} (h0 : 0 ≤ d) {l : List St} : shL e (shL d l) = shL (d + e) l := by
  unfold shL
  rw [List.map_map]
  refine List.map_congr_left fun x hx => ?_
  obtain ⟨k, m, s⟩ := x
  simp only [Function.comp, shS, List.map_map]
  congr 2
  refine List.map_congr_left fun y hy => ?_
  simp only [Function.comp, shI]
  split <;> split <;> omega
theorem shL_zero {l : List St} : shL 0 l = l := by
  unfold shL
  refine (List.map_congr_left (g := id) fun x hx => ?_).trans (List.map_id _)
  obtain ⟨k, m, s⟩ := x
  simp only [shS, id]
  congr 2
  refine (List.map_congr_left (g := id) fun y hy => ?_).trans (List.map_id _)
  simp only [shI, id]
  split <;> omega
end Go.Proofs.YtgeidnfigncepaaDoor
