/- The box of one tuple, of the law of free tuples. -/
import Derived.Test.YtbddpjofhddilaaNXB
import Derived.Test.YtbddpjofhddilaaNWY
import Derived.Test.YtbddpjofhddilaaN05
namespace Go.Proofs.Ytbddpjofhddilaa
open Go.RowKit

structure Zero2 (lo : Nat) (W : World) (g : Nat) : Prop where
  ge : lo ≤ g
  lt : g < W.heap.size
  c0 : W.cell? ⟨g, 0, none⟩ = some (.int .i64 0)
  c1 : W.cell? ⟨g, 1, none⟩ = some (.slice none 0 0)
  f0 : W.frozen? ⟨g, 0, none⟩ = false
  f1 : W.frozen? ⟨g, 1, none⟩ = false
theorem Zero2.new {lo : Nat} (w : World) (h : lo ≤ w.heap.size) : Zero2 lo (w.alloc (.cells #[.int .i64 0, .slice none 0 0] 53)) w.heap.size :=
  ⟨h, by simp, by go_simp, by go_simp, by go_simp, by go_simp⟩
theorem Zero2.grown {lo : Nat} {W W' : World} {g : Nat} (h : Zero2 lo W g) (hg : W.grownBy W' none) : Zero2 lo W' g :=
  ⟨h.ge, Nat.lt_of_lt_of_le h.lt hg.size, hg.cell h.c0 (by simp), hg.cell h.c1 (by simp), (grown_frozen hg h.lt 0).trans h.f0, (grown_frozen hg h.lt 1).trans h.f1⟩
def Sl1 (W : World) (s : Nat) (v : Value) : Prop := W.cell? ⟨s, 0, none⟩ = some v ∧ s < W.heap.size
theorem Sl1.new (w : World) (v : Value) : Sl1 (w.alloc (.cells #[v] 3)) w.heap.size v := ⟨by go_simp, by simp⟩
theorem Sl1.grown {W W' : World} {s : Nat} {v : Value} (h : Sl1 W s v) (hg : W.grownBy W' none) : Sl1 W' s v := ⟨hg.cell h.1 (by simp), Nat.lt_of_lt_of_le h.2 hg.size⟩
theorem two_set9 {w : World} {b : Nat} {x0 x1 : Value} (y0 y1 : Value) (h0 : w.cell? ⟨b, 0, none⟩ = some x0) (h1 : w.cell? ⟨b, 1, none⟩ = some x1) :
    ((w.setCell ⟨b, 0, none⟩ y0).setCell ⟨b, 1, none⟩ y1).cell? ⟨b, 0, none⟩ = some y0 ∧ ((w.setCell ⟨b, 0, none⟩ y0).setCell ⟨b, 1, none⟩ y1).cell? ⟨b, 1, none⟩ = some y1 ∧ w.grownBy ((w.setCell ⟨b, 0, none⟩ y0).setCell ⟨b, 1, none⟩ y1) (some b) := by
  have ne : ∀ {i j : Nat}, i ≠ j → (⟨b, i, none⟩ : Addr) ≠ ⟨b, j, none⟩ := fun h e => by injection e with _ e; exact h e
  refine ⟨?_, ?_, ?_⟩
  · rw [World.cell?_setCell_other _ _ _ _ (ne (by decide))]
    exact World.cell?_setCell_same _ _ _ h0
  · exact World.cell?_setCell_same _ _ _ (by rw [World.cell?_setCell_other _ _ _ _ (ne (by decide))]; exact h1)
  · exact (grown_set _ b 0 y0).trans (grown_set _ b 1 y1)
/-- The relation of one tuple, in its box. -/
structure OneB (W : World) (g s : Nat) (k r : Int) : Prop where
  c0 : W.cell? ⟨g, 0, none⟩ = some (.int .i64 k)
  c1 : W.cell? ⟨g, 1, none⟩ = some (.slice (some ⟨s, 0, none⟩) 1 1)
  row : IntsW W (some ⟨s, 0, none⟩) 1 [r]
theorem OneB.grown {W W' : World} {g s : Nat} {k r : Int} (h : OneB W g s k r) (hg : W.grownBy W' none) : OneB W' g s k r := ⟨hg.cell h.c0 (by simp), hg.cell h.c1 (by simp), h.row.grown hg⟩
theorem row_of_sl1 {W : World} {s : Nat} {r : Int} (h : W.cell? ⟨s, 0, none⟩ = some (.int .i64 r)) : IntsW W (some ⟨s, 0, none⟩) 1 [r] :=
  ⟨Nat.le_refl _, .inr ⟨s, 0, rfl, fun j z hj => by
    match j, hj with
    | 0, hj => simp at hj; subst hj; exact h⟩⟩
theorem tinG {w : World} {k k' r : Int} {xa ya : Option Addr} {yc n : Nat} {ys : List Int} {Q : Bool} (h : IntsW w xa 1 [r]) (h' : IntsW w ya yc ys) (hl : ys.length ≤ 125) (hu : Up ys) (hn : ys.length = n) (hQ : decide (r ∈ ys) = Q) :
    Calls Try.prog 58 #[.agg #[.int .i64 k, .slice xa 1 1], .agg #[.int .i64 k', .slice ya n yc]] w fun e w' => e = .returned (.bool Q) ∧ w.grownBy w' none := by
  have h := rIn_calls k k' [r] ys xa ya 1 yc w h h' (by simp) (by omega) hu
  rw [lacks_one, hQ, hn] at h
  exact h
theorem boolAt {w : World} {pa : Option Addr} {pc : Nat} {pk : List Bool} (h : Bools w pa pc pk) (j : Nat) :
    (j < pk.length ∧ ∃ b o, pa = some ⟨b, o, none⟩ ∧ w.cell? ⟨b, o + j, none⟩ = some (.bool (pk.getD j false))) ∨ (pk.length ≤ j ∧ pk.getD j false = false) := by
  by_cases hj : j < pk.length
  · refine .inl ⟨hj, ?_⟩
    obtain ⟨b, o, ha, hc⟩ := h.2 j pk[j] (List.getElem?_eq_getElem hj)
    exact ⟨b, o, ha, by rw [hc, List.getD_eq_getElem?_getD, List.getElem?_eq_getElem hj]; rfl⟩
  · exact .inr ⟨by omega, by rw [List.getD_eq_getElem?_getD, List.getElem?_eq_none (by omega)]; rfl⟩
end Go.Proofs.Ytbddpjofhddilaa
