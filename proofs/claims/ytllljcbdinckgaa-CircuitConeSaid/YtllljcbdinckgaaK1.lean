/- Plain: what a value rests on. -/
import Derived.Test.YtllljcbdinckgaaD2
namespace Go.Proofs.Ytllljcbdinckgaa
open Go.RowKit

/-- The variables are at most eight. -/
def In8 (gs : List Gt) : Prop := ∀ g ∈ gs, g.1 = 1 → g.2.1 ≤ 8
theorem in8_add {gs : List Gt} (h : In8 gs) {x : Gt} (hx : x.1 = 1 → x.2.1 ≤ 8) : In8 (addG gs x).1 := by
  unfold addG
  split
  · exact h
  · split
    · exact h
    · intro g hg
      rcases List.mem_append.1 hg with hg | hg
      · exact h g hg
      · rw [List.mem_singleton.1 hg]; exact hx
theorem in8_and {gs : List Gt} (h : In8 gs) (a b : Int) : In8 (andC gs a b).1 := by
  unfold andC
  split
  · exact h
  · split
    · exact h
    · split
      · exact h
      · split
        · exact h
        · exact in8_add h (fun e => by simp at e)
theorem in8_do {gs : List Gt} (h : In8 gs) (refs : List Int) (s : Stp) : In8 (doC gs refs s).1 := by
  unfold doC
  split
  · unfold inputC
    split
    · exact h
    · exact in8_add h (fun _ => by simp only; omega)
  · split
    · exact in8_and h _ _
    · split
      · exact in8_and h _ _
      · exact in8_and (in8_and (in8_and h _ _) _ _) _ _
theorem in8_build : ∀ l : List Stp, In8 (buildC l).1 := by
  intro l
  rw [← List.reverse_reverse l]
  induction l.reverse with
  | nil => intro g hg; simp [buildC] at hg; subst hg; intro h; simp at h
  | cons s r ih => rw [List.reverse_cons, build_snoc]; exact in8_do ih _ _

/-- Marks that are closed from gate lo on. -/
structure Marks (gs : List Gt) (M : List Bool) (lo : Nat) : Prop where
  len : M.length = gs.length
  shut : ∀ (i : Nat) (g : Gt), lo ≤ i → M[i]? = some true → gs[i]? = some g → g.1 = 2 → M[(g.2.1 / 2).toNat]? = some true ∧ M[(g.2.2 / 2).toNat]? = some true
theorem val_lit {gs : List Gt} {values : List Bool} {a : Int} (h : Ok gs a) : valC gs values a = (if a % 2 = 0 then valC gs values (2 * (a / 2)) else !valC gs values (2 * (a / 2))) := by
  by_cases h2 : a % 2 = 0
  · rw [if_pos h2, show 2 * (a / 2) = a by omega]
  · rw [if_neg h2]
    have h3 : notR (2 * (a / 2)) = a := by
      have := h.1
      rw [notR_even (by omega) (by omega)]; omega
    rw [← val_not (gs := gs) (r := 2 * (a / 2)) (by have := h.1; have := h.2; exact ⟨by omega, by omega⟩), h3]
theorem val_marked {gs : List Gt} (hG : Good gs) {M : List Bool} (hM : Marks gs M 0) {vals Z : List Bool}
    (hZ : ∀ (i : Nat) (g : Gt), M[i]? = some true → gs[i]? = some g → g.1 = 1 → (vals[(g.2.1 - 1).toNat]?).getD false = (Z[(g.2.1 - 1).toNat]?).getD false) :
    ∀ (n i : Nat), i ≤ n → M[i]? = some true → valC gs vals (2 * (i : Int)) = valC gs Z (2 * (i : Int)) := by
  intro n
  induction n with
  | zero =>
    intro i hi _
    obtain rfl : i = 0 := by omega
    rw [val_at hG.zero, val_at hG.zero]
    simp [gateV]
  | succ n ih =>
    intro i hi hm
    have hil : i < gs.length := by rw [← hM.len]; exact (List.getElem?_eq_some_iff.1 hm).1
    obtain ⟨g, hg⟩ : ∃ g, gs[i]? = some g := ⟨_, List.getElem?_eq_getElem hil⟩
    by_cases h0 : i = 0
    · subst h0
      rw [val_at hG.zero, val_at hG.zero]
      simp [gateV]
    · rcases hG.form i g (by omega) hg with h1 | h2
      · rw [val_at hg, val_at hg]
        unfold gateV
        rw [if_pos h1.1, if_pos h1.1, hZ i g hm hg h1.1]
      · obtain ⟨k, a, b⟩ := g
        obtain ⟨hk, ha, hab, hb, _⟩ := h2
        simp only at hk ha hab hb
        subst hk
        obtain ⟨ma, mb⟩ := hM.shut i _ (Nat.zero_le _) hm hg rfl
        simp only at ma mb
        have oa : Ok gs a := ⟨by omega, by omega⟩
        have ob : Ok gs b := ⟨by omega, by omega⟩
        have ia := ih (a / 2).toNat (by omega) ma
        have ib := ih (b / 2).toNat (by omega) mb
        rw [show (((a / 2).toNat : Nat) : Int) = a / 2 by omega] at ia
        rw [show (((b / 2).toNat : Nat) : Int) = b / 2 by omega] at ib
        rw [val_and_gate hG hg, val_and_gate hG hg, val_lit oa, val_lit (values := Z) oa, val_lit ob, val_lit (values := Z) ob, ia, ib]
theorem eval_marked {gs : List Gt} (hG : Good gs) {M : List Bool} (hM : Marks gs M 0) {vals Z : List Bool}
    (hZ : ∀ (i : Nat) (g : Gt), M[i]? = some true → gs[i]? = some g → g.1 = 1 → (vals[(g.2.1 - 1).toNat]?).getD false = (Z[(g.2.1 - 1).toNat]?).getD false) {x : Int} (hx : Ok gs x) (hm : M[(x / 2).toNat]? = some true) : evalC gs vals x = evalC gs Z x := by
  have h := val_marked hG hM hZ _ _ (Nat.le_refl _) hm
  have h1 := hx.1
  rw [show (((x / 2).toNat : Nat) : Int) = x / 2 by omega] at h
  rw [eval_val hx, eval_val hx, val_lit hx, val_lit (values := Z) hx, h]
/-- A mark is set. -/
theorem set_get {M : List Bool} {j k : Nat} (hj : j < M.length) : (M.set j true)[k]? = some true ↔ k = j ∨ M[k]? = some true := by
  rw [List.getElem?_set]
  by_cases h : j = k
  · subst h; simp [hj]
  · rw [if_neg h]
    constructor
    · exact .inr
    · rintro (e | e)
      · exact absurd e.symm h
      · exact e
theorem Marks.mark {gs : List Gt} {M : List Bool} {lo : Nat} (h : Marks gs M lo) {j : Nat} (hj : j < lo) (hl : lo ≤ gs.length) : Marks gs (M.set j true) lo := by
  have hjm : j < M.length := by rw [h.len]; omega
  refine ⟨by rw [List.length_set]; exact h.len, fun i g hi hm hg hk => ?_⟩
  have hm2 : M[i]? = some true := by
    rcases (set_get hjm).1 hm with e | e
    · omega
    · exact e
  obtain ⟨ma, mb⟩ := h.shut i g hi hm2 hg hk
  exact ⟨(set_get hjm).2 (.inr ma), (set_get hjm).2 (.inr mb)⟩
end Go.Proofs.Ytllljcbdinckgaa
