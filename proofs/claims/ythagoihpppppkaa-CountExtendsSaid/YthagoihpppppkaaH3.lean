/- The operations over named circuits. -/
import Derived.Test.YthagoihpppppkaaE2
import Derived.Test.YthagoihpppppkaaG5
namespace Go.Proofs.Ythagoihpppppkaa
open Go.RowKit

/-- A store into a box of a circuit leaves the rows of gates. -/
theorem GateAt.set {w : World} {b : Nat} {k o : Nat} {g : Gt} (h : GateAt w k o g) {a' : Option Addr} {n' c' : Nat} (hb : w.cell? ⟨b, 0, none⟩ = some (.slice a' n' c')) (v : Value) : GateAt (w.setCell ⟨b, 0, none⟩ v) k o g := by
  have ne : ∀ {A : Addr} {x : Int}, w.cell? A = some (.int .i64 x) → (⟨b, 0, none⟩ : Addr) ≠ A := fun {A x} hA e => by rw [← e, hb] at hA; cases hA
  exact ⟨by rw [World.cell?_setCell_other _ _ _ _ (ne h.1)]; exact h.1, by rw [World.cell?_setCell_other _ _ _ _ (ne h.2.1)]; exact h.2.1, by rw [World.cell?_setCell_other _ _ _ _ (ne h.2.2)]; exact h.2.2⟩
theorem GatesW.set {w : World} {b : Nat} {a : Option Addr} {c : Nat} {g : List Gt} (h : GatesW w a c g) {a' : Option Addr} {n' c' : Nat} (hb : w.cell? ⟨b, 0, none⟩ = some (.slice a' n' c')) (v : Value) : GatesW (w.setCell ⟨b, 0, none⟩ v) a c g := by
  obtain ⟨hc, h | ⟨k, o, ha, ht, hz⟩⟩ := h
  · exact ⟨hc, .inl h⟩
  · exact ⟨hc, .inr ⟨k, o, ha, ht.set _ _, fun j g hj => (hz j g hj).set hb v⟩⟩
/-- A circuit in a box. -/
def CB (w : World) (b : Nat) (a : Option Addr) (c : Nat) (g : List Gt) : Prop := w.cell? ⟨b, 0, none⟩ = some (.slice a g.length c) ∧ w.frozen? ⟨b, 0, none⟩ = false ∧ GatesW w a c g
theorem CB.grown {w w' : World} {b : Nat} {a : Option Addr} {c : Nat} {g : List Gt} (h : CB w b a c g) (hg : w.grownBy w' none) : CB w' b a c g :=
  ⟨hg.cell h.1 (by simp), (grown_frozen hg (lies_lt h.1) 0).trans h.2.1, h.2.2.grown hg⟩
theorem CB.new {w : World} {a : Option Addr} {c : Nat} {g : List Gt} (h : GatesW w a c g) : CB (w.alloc (.cells #[.slice a g.length c] 32)) w.heap.size a c g :=
  ⟨(one_cell w _ 32).2.1, (one_cell w _ 32).2.2, h.grown (World.grownBy_alloc w _ none)⟩
theorem CB.put {w : World} {b : Nat} {a a' : Option Addr} {c n' c' : Nat} {g : List Gt} (h : GatesW w a c g) (h0 : w.cell? ⟨b, 0, none⟩ = some (.slice a' n' c')) (hf : w.frozen? ⟨b, 0, none⟩ = false) : CB (w.setCell ⟨b, 0, none⟩ (.slice a g.length c)) b a c g :=
  ⟨World.cell?_setCell_same _ _ _ h0, by rw [World.frozen?_setCell]; exact hf, h.set h0 _⟩
/-- A fresh box of a circuit. -/
def BoxZ (w : World) (b : Nat) : Prop := w.cell? ⟨b, 0, none⟩ = some (.slice none 0 0) ∧ w.frozen? ⟨b, 0, none⟩ = false
theorem BoxZ.new (w : World) : BoxZ (w.alloc (.cells #[.slice none 0 0] 32)) w.heap.size := (one_cell w _ 32).2
theorem BoxZ.grown {w w' : World} {b : Nat} (h : BoxZ w b) (hg : w.grownBy w' none) : BoxZ w' b := ⟨hg.cell h.1 (by simp), (grown_frozen hg (lies_lt h.1) 0).trans h.2⟩
/-- What a call that answers with a circuit and a reference leaves. -/
def Ans (w : World) (g : List Gt) (r : Int) (x : Ending) (w' : World) : Prop := ∃ a c, x = .returned (.tuple #[.agg #[.slice a g.length c], .int .i64 r]) ∧ GatesW w' a c g ∧ w.grownBy w' none
theorem ans_of {w w' : World} {p : List Gt × Int} {g : List Gt} {r : Int} {x : Ending} (e : p = (g, r)) (h : ∃ y, x = .returned (.tuple #[y, .int .i64 p.2]) ∧ CirV w' y p.1 ∧ w.grownBy w' none) : Ans w g r x w' := by
  obtain ⟨y, rfl, ⟨a, c, rfl, h1⟩, h2⟩ := h
  rw [e] at h1
  exact ⟨a, c, by rw [e], h1, h2⟩
section
variable {gs g : List Gt} {r : Int} {a : Option Addr} {c : Nat} {w : World}
theorem same_at {g2 : List Gt} {a2 : Option Addr} {c2 : Nat} {q : Bool} (e : decide (gs = g2) = q) (hl : gs.length ≤ 2000) (hl2 : g2.length ≤ 2000) (h : GatesW w a c gs) (h2 : GatesW w a2 c2 g2) : Calls Try.prog 26 #[.agg #[.slice a gs.length c], .agg #[.slice a2 g2.length c2]] w fun x w' => x = .returned (.bool q) ∧ w.grownBy w' none := by
  have := same_calls gs g2 a c a2 c2 w h h2 hl hl2
  rw [e] at this
  exact this
theorem eval_at {vals : List Bool} {va : Option Addr} {vc : Nat} {q : Bool} (x : Int) (e : evalC gs vals x = q) (hl : gs.length ≤ 1000) (hl2 : vals.length ≤ 1000) (hb : ∀ g ∈ gs, g.2.1 ≤ 9223372036854775807 ∧ g.2.2 ≤ 9223372036854775807) (hr : x ≤ 9223372036854775807) (h : GatesW w a c gs) (hv : BoolsW w va vc vals) :
    Calls Try.prog 46 #[.agg #[.slice a gs.length c], .slice va vals.length vc, .int .i64 x] w fun x w' => x = .returned (.bool q) ∧ w.grownBy w' none := by
  have := eval_calls gs vals x a c va vc w h hv hl hl2 hb hr
  rw [e] at this
  exact this
theorem not_at (x : Int) (hx : x ≤ 9223372036854775807) : Calls Try.prog 45 #[.int .i64 x] w fun e w' => e = .returned (.int .i64 (notR x)) ∧ w' = w := not25_calls x w hx
end
theorem good_bounds {gs : List Gt} (h : Good gs) (hl : gs.length ≤ 20000) : ∀ g ∈ gs, g.2.1 ≤ 9223372036854775807 ∧ g.2.2 ≤ 9223372036854775807 := fun g hg => by
  obtain ⟨i, hi⟩ := List.mem_iff_getElem?.1 hg
  have hlt := (List.getElem?_eq_some_iff.1 hi).1
  cases i with
  | zero => rw [h.zero] at hi; cases hi; simp
  | succ i => rcases h.form _ _ (by omega) hi with h1 | h1 <;> omega
theorem wf_i64 {x : Int} (h0 : 0 ≤ x) (h1 : x ≤ 9223372036854775807) : (Lit.int .i64 x).wf = true := WalkArith.wf_i64 (by omega)
theorem good_wf {gs : List Gt} (h : Good gs) (hl : gs.length ≤ 20000) : ∀ g ∈ gs, WfG g := fun g hg => by
  obtain ⟨i, hi⟩ := List.mem_iff_getElem?.1 hg
  have hlt := (List.getElem?_eq_some_iff.1 hi).1
  cases i with
  | zero => rw [h.zero] at hi; cases hi; exact ⟨wf_i64 (by simp) (by simp), wf_i64 (by simp) (by simp), wf_i64 (by simp) (by simp)⟩
  | succ i => rcases h.form _ _ (by omega) hi with h1 | h1 <;> exact ⟨wf_i64 (by omega) (by omega), wf_i64 (by omega) (by omega), wf_i64 (by omega) (by omega)⟩

end Go.Proofs.Ythagoihpppppkaa
