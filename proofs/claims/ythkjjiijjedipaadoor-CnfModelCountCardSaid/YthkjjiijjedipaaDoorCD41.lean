/- Texts of the proof: U0 U1. -/
import Derived.Test.YthkjjiijjedipaaDoorCD38
import Derived.Test.YthkjjiijjedipaaDoorCD27
import Derived.Test.YthkjjiijjedipaaDoorCD39
import Derived.Test.YthkjjiijjedipaaDoorCD10
import Derived.Test.YthkjjiijjedipaaDoorCD09
import Derived.Test.YthkjjiijjedipaaDoorCD23
import Derived.Test.YthkjjiijjedipaaDoorCD40
namespace Go.Proofs.YthkjjiijjedipaaDoor
open Go.RowKit
def rowsW : World → List (List Int) → World
  | w, [] => w
  | w, z :: r => rowsW (w.alloc (.cells (z.map (Value.int .i64)).toArray 3)) r
def rowsV (n : Nat) : Nat → List (List Int) → List Value
  | _, [] => []
  | k, z :: r => .slice (some ⟨n + k, 0, none⟩) z.length z.length :: rowsV n (k + 1) r
theorem ints_lit (w : World) (z : List Int) : IntsW (w.alloc (.cells (z.map (Value.int .i64)).toArray 3)) (some ⟨w.heap.size, 0, none⟩) z.length z :=
  ⟨Nat.le_refl _, .inr ⟨_, _, rfl, fun j x hj => by rw [Nat.zero_add]; rw [World.cell?_alloc_new]; simp [hj]⟩⟩
theorem bools_lit (w : World) (z : List Bool) : BoolsW (w.alloc (.cells (z.map Value.bool).toArray 4)) (some ⟨w.heap.size, 0, none⟩) z.length z :=
  ⟨Nat.le_refl _, .inr ⟨_, _, rfl, fun j x hj => by rw [Nat.zero_add]; rw [World.cell?_alloc_new]; simp [hj]⟩⟩
theorem rows_says : ∀ (l : List (List Int)) (w : World) (n k : Nat), w.heap.size = n + k → w.grownBy (rowsW w l) none ∧ (rowsW w l).heap.size = n + k + l.length ∧
    ∀ (j : Nat) (z : List Int), l[j]? = some z → ∃ b, (rowsV n k l)[j]? = some (.slice (some ⟨b, 0, none⟩) z.length z.length) ∧ IntsW (rowsW w l) (some ⟨b, 0, none⟩) z.length z
  | [], w, n, k, h => ⟨grown_refl _ _, h, fun j z hj => by simp at hj⟩
  | z :: r, w, n, k, h => by
    have hg := World.grownBy_alloc w (.cells (z.map (Value.int .i64)).toArray 3) none
    have hz := ints_lit w z
    obtain ⟨h1, h2, h3⟩ := rows_says r (w.alloc (.cells (z.map (Value.int .i64)).toArray 3)) n (k + 1) (by simp; omega)
    refine ⟨World.grownBy.trans hg h1, by show (rowsW _ r).heap.size = _; rw [h2, List.length_cons]; omega, fun j x hj => ?_⟩
    cases j with
    | zero =>
      simp at hj
      subst hj
      rw [h] at hz
      exact ⟨n + k, rfl, hz.grown h1⟩
    | succ j => exact h3 j x (by simpa using hj)
theorem form_says (l : List (List Int)) (w : World) : w.grownBy ((rowsW w l).alloc (.cells (rowsV w.heap.size 0 l).toArray 28)) none ∧ ClsW ((rowsW w l).alloc (.cells (rowsV w.heap.size 0 l).toArray 28)) (some ⟨w.heap.size + l.length, 0, none⟩) l.length l := by
  obtain ⟨h1, h2, h3⟩ := rows_says l w w.heap.size 0 rfl
  have hg := World.grownBy_alloc (rowsW w l) (.cells (rowsV w.heap.size 0 l).toArray 28) none
  refine ⟨World.grownBy.trans h1 hg, Nat.le_refl _, .inr ⟨_, _, rfl, fun j z hj => ?_⟩⟩
  obtain ⟨b, e, hb⟩ := h3 j z hj
  refine ⟨_, _, ?_, hb.grown hg⟩
  rw [show w.heap.size + l.length = (rowsW w l).heap.size by rw [h2]; rfl, Nat.zero_add, World.cell?_alloc_new]
  simp [e]
theorem tse_span {gs : List Gt} {r : Int} {m : Nat} {V : Nat} {L : List (List Int)} (e : tseP gs r m = (V, L)) (a : Option Addr) (c : Nat) (w : World) (h : GatesW w a c gs) (hG : Good gs) (hl : gs.length ≤ 1000) (hr : Ok gs r) (hm : m ≤ 100) :
    Calls Tryd.prog 12 #[.agg #[.slice a gs.length c], .int .i64 r, .int .i64 (m : Int)] w fun x w' => ∃ a' c', x = .returned (cnfV (V : Int) a' L.length c') ∧ Span w.heap.size w'.heap.size w' (fun W => ClsW W a' c' L) ∧ w.grownBy w' none := by
  by_cases h0 : r = 0
  · subst h0
    have e2 : tseP gs 0 m = (m, []) := by unfold tseP; rw [if_pos rfl]
    rw [e2] at e
    cases e
    refine (tse0_calls m _ a c w hm).mono ?_
    rintro x w' ⟨rfl, hg⟩
    exact ⟨none, 0, rfl, ⟨Nat.le_refl _, fun W _ => clsW_nil _ _ _⟩, hg⟩
  · by_cases h1 : r = 1
    · subst h1
      have e2 : tseP gs 1 m = (m, [[]]) := by unfold tseP; rw [if_neg (by decide), if_pos rfl]
      rw [e2] at e
      cases e
      exact tse1_span m _ a c w hm
    · have := tse2_span gs r m a c w h hG hl hr (by have := hr.1; omega) hm
      rw [e] at this
      exact this
theorem tse_calls {gs : List Gt} {r : Int} {m : Nat} {V : Nat} {L : List (List Int)} (e : tseP gs r m = (V, L)) (a : Option Addr) (c : Nat) (w : World) (h : GatesW w a c gs) (hG : Good gs) (hl : gs.length ≤ 1000) (hr : Ok gs r) (hm : m ≤ 100) :
    Calls Tryd.prog 12 #[.agg #[.slice a gs.length c], .int .i64 r, .int .i64 (m : Int)] w fun x w' => ∃ a' c', x = .returned (cnfV (V : Int) a' L.length c') ∧ ClsW w' a' c' L ∧ w.grownBy w' none :=
  (tse_span e a c w h hG hl hr hm).mono fun _ _ ⟨a', c', h1, h2, h3⟩ => ⟨a', c', h1, h2.here, h3⟩
theorem ext_calls {gs : List Gt} {r : Int} {m : Nat} {vals X : List Bool} {nv : Nat} (e : extP gs r m vals = X) (hnv : vals.length = nv) (a : Option Addr) (c : Nat) (va : Option Addr) (vc : Nat) (w : World) (h : GatesW w a c gs) (hG : Good gs) (hv : BoolsW w va vc vals) (hl : gs.length ≤ 1000) (hlv : nv ≤ 1000) (hr : Ok gs r) (hm : m ≤ 100) :
    Calls Tryd.prog 13 #[.agg #[.slice a gs.length c], .int .i64 r, .int .i64 (m : Int), .slice va nv vc] w fun x w' => ∃ a' c', x = .returned (.slice a' X.length c') ∧ BoolsW w' a' c' X ∧ w.grownBy w' none := by
  subst hnv
  have := extend_calls gs r m vals a c va vc w h hG hv hl hlv hr hm
  rw [e] at this
  exact this
end Go.Proofs.YthkjjiijjedipaaDoor

namespace Go.Proofs.YthkjjiijjedipaaDoor
open Go.RowKit
set_option maxRecDepth 100000
theorem hd1 : inputC [(0, 0, 0)] 1 = ([(0, 0, 0), (1, 1, 0)], 2) := by decide +kernel
theorem hd2 : inputC [(0, 0, 0), (1, 1, 0)] 2 = ([(0, 0, 0), (1, 1, 0), (1, 2, 0)], 4) := by decide +kernel
theorem hd3 : andC [(0, 0, 0), (1, 1, 0), (1, 2, 0)] 2 4 = ([(0, 0, 0), (1, 1, 0), (1, 2, 0), (2, 2, 4)], 6) := by decide +kernel
theorem hd4 : tseP [(0, 0, 0), (1, 1, 0), (1, 2, 0), (2, 2, 4)] 6 2 = (3, [[-3, 1], [-3, 2], [3, -1, -2], [3]]) := by decide +kernel
theorem hd5 : tseP [(0, 0, 0), (1, 1, 0), (1, 2, 0), (2, 2, 4)] 1 4 = (4, [[]]) := by decide +kernel
theorem hd6 : extP [(0, 0, 0), (1, 1, 0), (1, 2, 0), (2, 2, 4)] 6 2 [true, true] = [true, true, true] := by decide +kernel
theorem hk1 : keyP [1, 2] = [49, 32, 50, 32] := by
  have h : msort [1, 2] = [1, 2] := by unfold msort; simp [List.mergeSort, List.MergeSort.Internal.splitInTwo]
  unfold keyP
  rw [h]
  decide +kernel
theorem hk2 : keyP [2, 1] = [49, 32, 50, 32] := by
  have h : msort [2, 1] = [1, 2] := by unfold msort; simp [List.mergeSort, List.MergeSort.Internal.splitInTwo]
  unfold keyP
  rw [h]
  decide +kernel
theorem hk3 : keyP [] = [] := by
  have h : msort [] = [] := by unfold msort; simp
  unfold keyP
  rw [h]
  rfl
theorem hk4 : keyP [-1] = [45, 49, 32] := by
  have h : msort [-1] = [-1] := by unfold msort; simp
  unfold keyP
  rw [h]
  decide +kernel
theorem hd7 : simpP [[1, 2, 1], [3, -3], [2, 1], [], [-1]] = [[1, 2], [], [-1]] := by
  have h : dropP [[1, 2, 1], [3, -3], [2, 1], [], [-1]] = [[1, 2], [2, 1], [], [-1]] := by decide +kernel
  unfold simpP
  rw [h]
  show keepGo [[1, 2], [2, 1], [], [-1]] 4 = _
  simp [keepGo, hk1, hk2, hk3, hk4, ixOf]
theorem gE1 : Good [(0, 0, 0), (1, 1, 0)] := by have := (step_input good_new 1).good; rw [hd1] at this; exact this
theorem gE2 : Good [(0, 0, 0), (1, 1, 0), (1, 2, 0)] := by have := (step_input gE1 2).good; rw [hd2] at this; exact this
theorem gE3 : Good [(0, 0, 0), (1, 1, 0), (1, 2, 0), (2, 2, 4)] := by have := (step_and gE2 2 4).good; rw [hd3] at this; exact this
theorem hd8 : satP [true, true, true] [[-3, 1], [-3, 2], [3, -1, -2], [3]] = true := by decide +kernel
theorem hd9 : satP [true, false, false] [[-3, 1], [-3, 2], [3, -1, -2], [3]] = false := by decide +kernel
theorem hd10 : litsOk 3 [[-3, 1], [-3, 2], [3, -1, -2], [3]] = true := by decide +kernel
theorem hd11 : litsOk 1 [[2]] = false := by decide +kernel
theorem hd12 : litsOk 1 [[0]] = false := by decide +kernel
end Go.Proofs.YthkjjiijjedipaaDoor
