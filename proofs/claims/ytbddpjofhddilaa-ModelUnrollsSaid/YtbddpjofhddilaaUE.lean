/- The tuple with a rank. -/
import Derived.Test.YtbddpjofhddilaaUD
namespace Go.Proofs.Ytbddpjofhddilaa
open Go.RowKit

/-- The last k digits of a number, and what is left. -/
def tupTo (N : Int) : Nat → Int → List Int
  | 0, _ => []
  | k + 1, r => tupTo N k (r.tdiv N) ++ [r.tmod N]
def leftTo (N : Int) : Nat → Int → Int
  | 0, r => r
  | k + 1, r => leftTo N k (r.tdiv N)
theorem tupTo_length (N : Int) : ∀ k r, (tupTo N k r).length = k
  | 0, _ => rfl
  | k + 1, r => by simp [tupTo, tupTo_length N k]
def tupI (N : Nat) (k r : Int) : List Int :=
  if k < 0 ∨ 3 < k ∨ (0 < k ∧ N < 1) then [] else if r < 0 ∨ 0 < leftTo N k.toNat r then [] else tupTo N k.toNat r

theorem make_run : ∀ m : Nat, m ≤ 3 → ∀ w : World, (Instr.makeSlice 28 (.int .i64 (m : Int)) (.int .i64 (m : Int))).run Try.prog w = .ok (.slice (some ⟨w.heap.size, 0, none⟩) m m) (w.alloc (.cells (Array.replicate m (.int .i64 0)) 3))
  | 0, _, _ => by kernel_rfl
  | 1, _, _ => by kernel_rfl
  | 2, _, _ => by kernel_rfl
  | 3, _, _ => by kernel_rfl
  | n + 4, h, _ => absurd h (by omega)

/-- A row of m numbers in a block of its own that may be written. -/
structure Own (w1 w : World) (g m : Nat) : Prop where
  size : w1.heap.size ≤ g ∧ g < w.heap.size
  there : ∀ j, j < m → (w.cell? ⟨g, j, none⟩).isSome = true ∧ w.frozen? ⟨g, j, none⟩ = false
  grown : w1.grownBy w none
theorem Own.make (w : World) (m : Nat) : Own w (w.alloc (.cells (Array.replicate m (.int .i64 0)) 3)) w.heap.size m := by
  refine ⟨⟨Nat.le_refl _, by simp⟩, fun j hj => ?_, World.grownBy_alloc _ _ _⟩
  have e := World.cell?_alloc_new w (Array.replicate m (.int .i64 0)) 3 j
  have f := World.frozen?_alloc_new w (Array.replicate m (.int .i64 0)) 3 j
  exact ⟨by rw [e]; simp [hj], f⟩

theorem Own.set {w1 w : World} {g m : Nat} (h : Own w1 w g m) (p : Nat) (v : Value) : Own w1 (w.setCell ⟨g, p, none⟩ v) g m := by
  refine ⟨⟨h.size.1, by have := h.size.2; simpa [World.setCell] using this⟩, fun j hj => ?_, ?_⟩
  · obtain ⟨h1, h2⟩ := h.there j hj
    refine ⟨?_, by rw [World.frozen?_setCell]; exact h2⟩
    by_cases e : p = j
    · subst e; rw [World.cell?_setCell_same' _ _ _ h1]; rfl
    · rw [World.cell?_setCell_other _ _ _ _ (by intro e'; injection e' with _ e2; exact e e2)]; exact h1
  · have hg := h.grown
    refine ⟨hg.os, hg.tape, hg.output, by have := hg.size; simpa [World.setCell] using this, fun k hk h0 => ?_⟩
    rw [Below.heap_setCell _ _ _ _ (fun e => by have := h.size.1; simp at e; omega)]
    exact hg.block k hk h0
theorem tdiv_in {L : Int} {N : Nat} (hN : 1 ≤ N) (h : -9223372036854775808 ≤ L ∧ L ≤ 9223372036854775807) : -9223372036854775808 ≤ L.tdiv N ∧ L.tdiv N ≤ 9223372036854775807 := by
  have h1 := Int.natAbs_tdiv_le_natAbs L N
  by_cases h0 : 0 ≤ L
  · have h2 := Int.tdiv_nonneg h0 (b := (N : Int)) (by omega)
    omega
  · have h2 := Int.tdiv_nonneg (a := -L) (b := (N : Int)) (by omega) (by omega)
    rw [Int.neg_tdiv] at h2
    omega

end Go.Proofs.Ytbddpjofhddilaa
