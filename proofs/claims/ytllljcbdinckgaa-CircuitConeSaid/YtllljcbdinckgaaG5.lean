/- A set of gates in a map: the look-up and the store. -/
import Derived.Test.YtllljcbdinckgaaG2
import Derived.DeepKeys4
import Derived.Maps.OwnSet
import Derived.Maps.OwnIn
namespace Go.Proofs.Ytllljcbdinckgaa
open Go.RowKit Go.Maps

theorem row47 : (47 : TypeId) < Try.prog.types.size := of_decide_eq_true (by kernel_rfl)
theorem laidOutG : laidOutB Try.prog = true := by kernel_rfl
theorem wide47 : (match Try.prog.underlying 47 with | some (.array _ _) | some (.struct _) => true | _ => false) = true := by rw [Try.underlying47]
theorem law47 : WideMaps.KeyLaw Try.prog 47 := deep_law_laid laidOutG (m := 2) (by omega) row47 (by kernel_rfl) wide47
theorem keyed47 : Keyed Try.prog 47 := Keyed.of_law law47
theorem keyType47 : Try.prog.keyType 47 = true := by kernel_rfl
theorem cells47 : Try.prog.cellsOf 47 = 3 := by kernel_rfl
theorem cells3 : Try.prog.cellsOf 3 = 1 := by kernel_rfl
theorem size47 : ∃ m, Try.prog.types.size = m + 1 := ⟨_, show Try.prog.types.size = 83 + 1 by kernel_rfl⟩
/-- The numbers of a gate are what an int can hold. -/
def WfG (g : Gt) : Prop := (Lit.int .i64 g.1).wf = true ∧ (Lit.int .i64 g.2.1).wf = true ∧ (Lit.int .i64 g.2.2).wf = true
theorem key_mk {g : Gt} (h : WfG g) : ∃ l, keyOf Try.prog 47 (gv g) = some l := by
  obtain ⟨h0, h1, h2⟩ := h
  obtain ⟨m, hm⟩ := size47
  refine ⟨.string (keyBytes [.int .i64 g.1, .int .i64 g.2.1, .int .i64 g.2.2]), ?_⟩
  unfold keyOf
  simp only [Try.underlying47]
  rw [if_pos (by simp [keyType47, Value.formed, Try.underlying47, cells47]), hm]
  unfold Program.keyLits
  simp only [Try.underlying47, Value.cells]
  rw [if_pos (by rw [cells47]; exact ⟨rfl, by simp⟩)]
  simp [Program.keyLits, cells3, Try.underlying3, h0, h1, h2, List.mapM_cons]
theorem gv_inj {g h : Gt} (e : gv g = gv h) : g = h := by
  obtain ⟨a, b, c⟩ := g
  obtain ⟨a', b', c'⟩ := h
  simp at e
  simp [e]
theorem key_inj {g h : Gt} {l : Lit} (hg : keyOf Try.prog 47 (gv g) = some l) (hh : keyOf Try.prog 47 (gv h) = some l) : g = h := gv_inj (keyed47.inj hg hh)
theorem zero4 (w : World) : (zeroValue 4).run Try.prog w = .ok (.bool false) w := by kernel_rfl
theorem plainElem_bool_inv {v : Value} {z : DataW Unit × List MemPlace} (h : plainElem Try.prog 4 v = some z) : ∃ b, v = .bool b ∧ z = (.lit (.bool b), []) := by
  unfold plainElem at h
  rw [Try.underlying4] at h
  cases v <;> simp at h
  exact ⟨_, rfl, h.symm⟩
/-- Block b is a map whose keys are the gates of S. -/
def SetG (w : World) (b : Nat) (S : List Gt) : Prop :=
  ∃ D : DataW Unit, w.ownsMap Try.prog 47 (plainElem Try.prog 4) b S.length D ∧ ∀ (g : Gt) (l : Lit), keyOf Try.prog 47 (gv g) = some l → D.atKey l (.lit (.bool false)) = .lit (.bool (decide (g ∈ S)))
theorem SetG.made (w : World) : SetG (w.alloc (.map #[] 0)) w.heap.size [] :=
  ⟨.map [], World.ownsMap_made w _ _ _, fun g l _ => by simp [DataW.atKey]⟩
theorem SetG.kept {w w' : World} {b : Nat} {S : List Gt} {r : Option Nat} (h : SetG w b S) (hg : w.grownBy w' r) (hr : some b ≠ r) : SetG w' b S := by
  obtain ⟨D, hD, hk⟩ := h
  exact ⟨D, hD.kept hg hr, hk⟩
theorem SetG.grown {w w' : World} {b : Nat} {S : List Gt} (h : SetG w b S) (hg : w.grownBy w' none) : SetG w' b S := h.kept hg (by simp)
theorem SetG.look {w : World} {b : Nat} {S : List Gt} (h : SetG w b S) {g : Gt} (hk : WfG g) : (Instr.lookup 57 (.map (some b)) (gv g) false).run Try.prog w = .ok (.bool (decide (g ∈ S))) w := by
  obtain ⟨D, hD, ha⟩ := h
  obtain ⟨l, hl⟩ := key_mk hk
  obtain ⟨v, ps, hr, hv⟩ := hD.lookup keyed47 Try.underlying57 (zero4 w) (plainElem_bool Try.underlying4 false) hl
  rw [ha g l hl] at hv
  obtain ⟨x, rfl, hx⟩ := plainElem_bool_inv hv
  rw [hr]
  simp at hx
  rw [hx.1]
theorem SetG.store {w : World} {b : Nat} {S : List Gt} (h : SetG w b S) (hl : S.length ≤ 1000000) {g : Gt} (hk : WfG g) :
    ∃ w', (Instr.mapUpdate 57 (.map (some b)) (gv g) (.bool true)).run Try.prog w = .ok () w' ∧ SetG w' b (S ++ [g]) ∧ w.grownBy w' (some b) := by
  obtain ⟨D, hD, ha⟩ := h
  obtain ⟨l, hkl⟩ := key_mk hk
  obtain ⟨w', hr, ho, ht⟩ := hD.store keyed47 Try.underlying57 (by unfold maxLen; omega) hkl (plainElem_bool Try.underlying4 true)
  refine ⟨w', hr, ⟨_, by rw [List.length_append]; exact ho, fun k l' hk' => ?_⟩, ht.grown⟩
  by_cases e : l' = l
  · subst e
    have : k = g := key_inj hk' hkl
    subst this
    rw [Maps.atKey_put_same hD.isMap (keyed47.key hkl)]
    simp
  · have hne : k ≠ g := fun hh => e (by rw [hh, hkl] at hk'; injection hk' with hk'; exact hk'.symm)
    rw [Maps.atKey_put_other e, ha k l' hk']
    simp [hne]
end Go.Proofs.Ytllljcbdinckgaa
