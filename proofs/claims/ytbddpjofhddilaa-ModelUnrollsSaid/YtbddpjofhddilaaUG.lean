/- The sorts of atoms, counted; the scope of a law as it lies in memory. -/
import Derived.Test.YtbddpjofhddilaaUF
namespace Go.Proofs.Ytbddpjofhddilaa
open Go.RowKit

theorem sum_take_succ {l : List Nat} {i z : Nat} (h : l[i]? = some z) : sum (l.take (i + 1)) = sum (l.take i) + z := by
  rw [List.take_add_one, h, Option.toList_some, sum_snoc]
theorem sum_take_step (l : List Nat) (i : Nat) : sum (l.take i) ≤ sum (l.take (i + 1)) := by
  cases h : l[i]? with
  | none => rw [List.take_add_one, h]; simp
  | some z => rw [sum_take_succ h]; omega
theorem sum_take_mono (l : List Nat) {i j : Nat} (h : i ≤ j) : sum (l.take i) ≤ sum (l.take j) := by
  induction j with
  | zero => have : i = 0 := by omega
            rw [this]; exact Nat.le_refl _
  | succ j ih =>
    by_cases e : i = j + 1
    · rw [e]; exact Nat.le_refl _
    · exact Nat.le_trans (ih (by omega)) (sum_take_step l j)
theorem sortOf_spec (l : List Nat) (x : Int) : ∀ n i, n + i = l.length → ((sum (l.take i) : Nat) : Int) ≤ x →
    match sortOf l x n i with
    | some k => k < l.length ∧ ((sum (l.take k) : Nat) : Int) ≤ x ∧ x < ((sum (l.take (k + 1)) : Nat) : Int)
    | none => ((sum l : Nat) : Int) ≤ x
  | 0, i, hi, hx => by
    simp only [sortOf]
    rw [List.take_of_length_le (by omega)] at hx; exact hx
  | n + 1, i, hi, hx => by
    simp only [sortOf]
    by_cases h : x < ((sum (l.take (i + 1)) : Nat) : Int)
    · rw [if_pos h]; exact ⟨by omega, hx, h⟩
    · rw [if_neg h]; exact sortOf_spec l x n (i + 1) (by omega) (by omega)
theorem sortI_out {l : List Nat} {x : Int} (h : x < 0 ∨ ((sum l : Nat) : Int) ≤ x) : sortI l x = -1 := by
  unfold sortI
  by_cases h0 : x < 0
  · rw [if_pos h0]
  · rw [if_neg h0]
    have hs := sortOf_spec l x l.length 0 (by omega) (by simp [sum]; omega)
    cases hk : sortOf l x l.length 0 with
    | none => rfl
    | some k =>
      rw [hk] at hs
      have := sum_take_mono l (i := k + 1) (j := l.length) (by have := hs.1; omega)
      rw [List.take_length] at this
      simp at hs; omega
theorem sortI_in {l : List Nat} {x : Int} (h0 : 0 ≤ x) (h1 : x < ((sum l : Nat) : Int)) : ∃ k : Nat, sortI l x = (k : Int) ∧ k < l.length ∧ ((sum (l.take k) : Nat) : Int) ≤ x ∧ x < ((sum (l.take (k + 1)) : Nat) : Int) := by
  unfold sortI
  rw [if_neg (by omega)]
  have hs := sortOf_spec l x l.length 0 (by omega) (by simp [sum]; omega)
  cases hk : sortOf l x l.length 0 with
  | none => rw [hk] at hs; simp at hs; omega
  | some k => rw [hk] at hs; exact ⟨k, rfl, hs⟩
theorem sortI_is {l : List Nat} {x : Int} {i : Nat} (h0 : 0 ≤ x) (h1 : x < ((sum l : Nat) : Int)) : sortI l x = (i : Int) ↔ ((sum (l.take i) : Nat) : Int) ≤ x ∧ x < ((sum (l.take (i + 1)) : Nat) : Int) := by
  obtain ⟨k, hk, _, h3, h4⟩ := sortI_in h0 h1
  rw [hk]
  refine ⟨fun e => ?_, fun ⟨h5, h6⟩ => ?_⟩
  · have : k = i := by omega
    subst this; exact ⟨h3, h4⟩
  · by_cases e1 : k < i
    · have := sum_take_mono l (i := k + 1) (j := i) e1; omega
    · by_cases e2 : i < k
      · have := sum_take_mono l (i := i + 1) (j := k) e2; omega
      · have : k = i := by omega
        rw [this]
theorem sortI_mono {l : List Nat} {x y : Int} (h0 : 0 ≤ x) (hxy : x ≤ y) (h1 : y < ((sum l : Nat) : Int)) : sortI l x ≤ sortI l y := by
  obtain ⟨k, hk, _, h3, h4⟩ := sortI_in (l := l) (x := x) h0 (by omega)
  obtain ⟨m, hm, _, h5, h6⟩ := sortI_in (l := l) (x := y) (by omega) h1
  rw [hk, hm]
  by_cases e : m < k
  · have := sum_take_mono l (i := m + 1) (j := k) e; omega
  · omega

/-- The scope of a law in block g, W being the world in which it was made. -/
structure ScV (w0 w : World) (g : Nat) (a : Option Addr) (c T : Nat) (l : List Nat) : Prop where
  c0 : w.cell? ⟨g, 0, none⟩ = some (.slice a l.length c)
  c1 : w.cell? ⟨g, 1, none⟩ = some (.int .i64 (T : Int))
  nums : Nums w a c l
  grown : w0.grownBy w none
theorem ScV.go {w0 w w' : World} {g : Nat} {a : Option Addr} {c T : Nat} {l : List Nat} (h : ScV w0 w g a c T l) (hg : w.grownBy w' none) : ScV w0 w' g a c T l :=
  ⟨hg.cell h.c0 (by simp), hg.cell h.c1 (by simp), h.nums.grown hg, h.grown.trans hg⟩
theorem ScV.start {w0 w : World} {a : Option Addr} {c T : Nat} {l : List Nat} (hn : Nums w a c l) (hg : w0.grownBy w none) : ScV w0 (w.alloc (.cells #[.slice a l.length c, .int .i64 (T : Int)] 30)) w.heap.size a c T l := by
  have g1 := World.grownBy_alloc w (.cells #[.slice a l.length c, .int .i64 (T : Int)] 30) none
  exact ⟨by go_simp, by go_simp, hn.grown g1, hg.trans g1⟩
end Go.Proofs.Ytbddpjofhddilaa
