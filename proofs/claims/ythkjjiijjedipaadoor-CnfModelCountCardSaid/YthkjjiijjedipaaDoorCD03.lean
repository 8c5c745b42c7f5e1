/- Texts of the proof: GC. -/
import Derived.Test.YthkjjiijjedipaaDoorCD02
namespace Go.Proofs.YthkjjiijjedipaaDoor
open Go.RowKit

theorem addG_some {gs : List Gt} {x : Gt} {i : Nat} (h : locG x gs = some i) : addG gs x = (gs, 2 * (i : Int)) := by unfold addG; rw [h]
theorem addG_none {gs : List Gt} {x : Gt} (h : locG x gs = none) (hl : gs.length < 20000) : addG gs x = (gs ++ [x], 2 * (gs.length : Int)) := by unfold addG; rw [h]; simp only; rw [if_neg (by omega)]
theorem locI_nat {gs : List Gt} {x : Gt} {i : Nat} (h : locG x gs = some i) : locI x gs = (i : Int) := by unfold locI; rw [h]
theorem locI_neg {gs : List Gt} {x : Gt} (h : locG x gs = none) : locI x gs = -1 := by unfold locI; rw [h]
theorem gate_news {w : World} {b : Nat} {x : Gt} (h : GateAt w b 0 x) (ht : Ty47 w b) : GatesW w (some ⟨b, 0, none⟩) 1 [x] := ⟨Nat.le_refl _, .inr ⟨b, 0, rfl, ht, fun j g hj => by
  cases j with
  | zero => simp at hj; subst hj; exact h
  | succ j => simp at hj⟩⟩
theorem GateAt.moved {w w' : World} {b o : Nat} {g : Gt} {r : Option Nat} (h : GateAt w b o g) (hg : w.grownBy w' r) (hr : some b ≠ r) : GateAt w' b o g := ⟨hg.cell h.1 hr, hg.cell h.2.1 hr, hg.cell h.2.2 hr⟩
theorem beqT {a b : Int} (h : a = b) : (a == b) = true := by simp [h]
theorem beqF {a b : Int} (h : ¬ a = b) : (a == b) = false := by simp [h]
theorem and_le {gs : List Gt} {a b : Int} (ha : a ≤ 9223372036854775807) (hb : b ≤ 9223372036854775807) (hl : gs.length ≤ 10000) : (andC gs a b).2 ≤ 9223372036854775807 := by
  unfold andC
  split
  · simp
  · split
    · simp
    · split
      · exact hb
      · split
        · exact ha
        · unfold addG
          split
          · rename_i i h
            have := (List.getElem?_eq_some_iff.1 (locG_some h)).1
            simp only
            omega
          · split
            · simp
            · simp only; omega
theorem notR_le {r : Int} (h : r ≤ 9223372036854775807) : notR r ≤ 9223372036854775807 := by unfold notR; split <;> (try split) <;> omega
theorem one_cell (w : World) (u : Value) (s : TypeId) : w.heap.size < (w.alloc (.cells #[u] s)).heap.size ∧ (w.alloc (.cells #[u] s)).cell? ⟨w.heap.size, 0, none⟩ = some u ∧ (w.alloc (.cells #[u] s)).frozen? ⟨w.heap.size, 0, none⟩ = false :=
  ⟨by simp, by go_simp, by go_simp⟩
def CirV (w : World) (v : Value) (gs : List Gt) : Prop := ∃ a c, v = .agg #[.slice a gs.length c] ∧ GatesW w a c gs
theorem CirV.grown {w w' : World} {v : Value} {gs : List Gt} (h : CirV w v gs) (hg : w.grownBy w' none) : CirV w' v gs := by
  obtain ⟨a, c, e, h⟩ := h
  exact ⟨a, c, e, h.grown hg⟩
structure GoodTo (gs : List Gt) (k : Nat) : Prop where
  form : ∀ (i : Nat) (g : Gt), i < k → gs[i + 1]? = some g → formG g (i + 1)
  one : ∀ (i j : Nat) (g : Gt), i < k → j < k → gs[i + 1]? = some g → gs[j + 1]? = some g → i = j
theorem GoodTo.start (gs : List Gt) : GoodTo gs 0 := ⟨fun i g h => by omega, fun i j g h => by omega⟩
theorem GoodTo.good {gs : List Gt} (h0 : gs[0]? = some (0, 0, 0)) {k : Nat} (hk : gs.length = k + 1) (h : GoodTo gs k) : Good gs := by
  have hpos : ∀ (i : Nat) (g : Gt), gs[i]? = some g → i < k + 1 := fun i g e => by have := (List.getElem?_eq_some_iff.1 e).1; omega
  have hne : ∀ (i : Nat) (g : Gt), i < k → gs[i + 1]? = some g → gs[0]? = some g → False := fun i g hi e e0 => by
    rw [h0] at e0; cases e0
    rcases h.form i _ hi e with h1 | h1 <;> simp at h1
  refine ⟨h0, fun i g hi e => ?_, fun i j g h1 h2 => ?_⟩
  · obtain ⟨i', rfl⟩ : ∃ i', i = i' + 1 := ⟨i - 1, by omega⟩
    exact h.form i' g (by have := hpos _ _ e; omega) e
  · have b1 := hpos _ _ h1
    have b2 := hpos _ _ h2
    cases i with
    | zero =>
      cases j with
      | zero => rfl
      | succ j => exact (hne j g (by omega) h2 h1).elim
    | succ i =>
      cases j with
      | zero => exact (hne i g (by omega) h1 h2).elim
      | succ j => rw [h.one i j g (by omega) (by omega) h1 h2]
theorem GoodTo.of {gs : List Gt} (h : Good gs) (k : Nat) : GoodTo gs k :=
  ⟨fun i g _ e => h.form (i + 1) g (by omega) e, fun i j g _ _ h1 h2 => by have := h.one _ _ _ h1 h2; omega⟩
theorem GoodTo.step {gs : List Gt} {k : Nat} {g : Gt} (h : GoodTo gs k) (hg : gs[k + 1]? = some g) (hf : formG g (k + 1)) (hn : g ∉ (gs.drop 1).take k) : GoodTo gs (k + 1) := by
  have hin : ∀ j, j < k → gs[j + 1]? = some g → False := fun j hj e => hn (List.mem_of_getElem? (show ((gs.drop 1).take k)[j]? = some g by rw [List.getElem?_take_of_lt hj, List.getElem?_drop, Nat.add_comm 1 j]; exact e))
  refine ⟨fun i g' hi e => ?_, fun i j g' hi hj h1 h2 => ?_⟩
  · by_cases hik : i = k
    · subst hik; rw [hg] at e; cases e; exact hf
    · exact h.form i g' (by omega) e
  · by_cases hik : i = k
    · subst hik
      rw [hg] at h1; cases h1
      by_cases hjk : j = i
      · exact hjk.symm
      · exact (hin j (by omega) h2).elim
    · by_cases hjk : j = k
      · subst hjk
        rw [hg] at h2; cases h2
        exact (hin i (by omega) h1).elim
      · exact h.one i j g' (by omega) (by omega) h1 h2
end Go.Proofs.YthkjjiijjedipaaDoor
