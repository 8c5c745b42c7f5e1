/- An index of gates in a map: the look-up and the store. -/
import Derived.Test.YthagoihpppppkaaG2
import Derived.DeepKeys4
import Derived.Maps.OwnSet
import Derived.Maps.OwnIn
import Derived.Maps.Views
namespace Go.Proofs.Ythagoihpppppkaa
open Go.RowKit Go.Maps

theorem row69 : (69 : TypeId) < Try.prog.types.size := of_decide_eq_true (by kernel_rfl)
theorem laidOutG : laidOutB Try.prog = true := by kernel_rfl
theorem wide69 : (match Try.prog.underlying 69 with | some (.array _ _) | some (.struct _) => true | _ => false) = true := by rw [Try.underlying69]
theorem law69 : WideMaps.KeyLaw Try.prog 69 := deep_law_laid laidOutG (m := 2) (by omega) row69 (by kernel_rfl) wide69
theorem keyed69 : Keyed Try.prog 69 := Keyed.of_law law69
theorem keyType69 : Try.prog.keyType 69 = true := by kernel_rfl
theorem cells69 : Try.prog.cellsOf 69 = 3 := by kernel_rfl
theorem cells3 : Try.prog.cellsOf 3 = 1 := by kernel_rfl
theorem size47 : ∃ m, Try.prog.types.size = m + 1 := ⟨_, show Try.prog.types.size = 104 + 1 by kernel_rfl⟩
/-- The numbers of a gate are what an int can hold. -/
def WfG (g : Gt) : Prop := (Lit.int .i64 g.1).wf = true ∧ (Lit.int .i64 g.2.1).wf = true ∧ (Lit.int .i64 g.2.2).wf = true
theorem key_mk {g : Gt} (h : WfG g) : ∃ l, keyOf Try.prog 69 (gv g) = some l := by
  obtain ⟨h0, h1, h2⟩ := h
  obtain ⟨m, hm⟩ := size47
  refine ⟨.string (keyBytes [.int .i64 g.1, .int .i64 g.2.1, .int .i64 g.2.2]), ?_⟩
  unfold keyOf
  simp only [Try.underlying69]
  rw [if_pos (by simp [keyType69, Value.formed, Try.underlying69, cells69]), hm]
  unfold Program.keyLits
  simp only [Try.underlying69, Value.cells]
  rw [if_pos (by rw [cells69]; exact ⟨rfl, by simp⟩)]
  simp [Program.keyLits, cells3, Try.underlying3, h0, h1, h2, List.mapM_cons]
theorem gv_inj {g h : Gt} (e : gv g = gv h) : g = h := by
  obtain ⟨a, b, c⟩ := g
  obtain ⟨a', b', c'⟩ := h
  simp at e
  simp [e]
theorem key_inj {g h : Gt} {l : Lit} (hg : keyOf Try.prog 69 (gv g) = some l) (hh : keyOf Try.prog 69 (gv h) = some l) : g = h := gv_inj (keyed69.inj hg hh)
theorem zero3 (w : World) : (zeroValue 3).run Try.prog w = .ok (.int .i64 0) w := by kernel_rfl
/-- Block b is a map that gives each gate of gs its place. -/
def MapG (w : World) (b : Nat) (gs : List Gt) : Prop :=
  ∃ D : DataW Unit, w.ownsMap Try.prog 69 (plainElem Try.prog 3) b gs.length D ∧ ∀ (g : Gt) (l : Lit), keyOf Try.prog 69 (gv g) = some l → Maps.has D l = decide (g ∈ gs) ∧ ∀ i : Nat, gs[i]? = some g → D.atKey l (.lit (.int .i64 0)) = .lit (.int .i64 (i : Int))
theorem MapG.made (w : World) : MapG (w.alloc (.map #[] 0)) w.heap.size [] :=
  ⟨.map [], World.ownsMap_made w _ _ _, fun g l _ => ⟨by simp [Maps.has], fun i hi => by simp at hi⟩⟩
theorem MapG.kept {w w' : World} {b : Nat} {S : List Gt} {r : Option Nat} (h : MapG w b S) (hg : w.grownBy w' r) (hr : some b ≠ r) : MapG w' b S := by
  obtain ⟨D, hD, hk⟩ := h
  exact ⟨D, hD.kept hg hr, hk⟩
theorem MapG.grown {w w' : World} {b : Nat} {S : List Gt} (h : MapG w b S) (hg : w.grownBy w' none) : MapG w' b S := h.kept hg (by simp)
theorem MapG.lt {w : World} {b : Nat} {S : List Gt} (h : MapG w b S) : b < w.heap.size := by
  obtain ⟨D, ⟨es, clock, hb, _⟩, _⟩ := h
  exact (Array.getElem?_eq_some_iff.1 hb).1
theorem MapG.look {w : World} {b : Nat} {S : List Gt} (h : MapG w b S) {g : Gt} (hk : WfG g) : ∃ c : Int, (Instr.lookup 78 (.map (some b)) (gv g) true).run Try.prog w = .ok (.tuple #[.int .i64 c, .bool (decide (g ∈ S))]) w ∧ ∀ i : Nat, S[i]? = some g → c = (i : Int) := by
  obtain ⟨D, hD, ha⟩ := h
  obtain ⟨l, hl⟩ := key_mk hk
  obtain ⟨v, ps, hr, hv⟩ := hD.look_ok keyed69 Try.underlying78 (zero3 w) (plainElem_int Try.underlying3 (by decide)) hl
  obtain ⟨c, rfl, hc, _⟩ := plainElem_int_inv Try.underlying3 hv
  refine ⟨c, by rw [hr, (ha g l hl).1], fun i hi => ?_⟩
  have h1 := (ha g l hl).2 i hi
  have h2 := congrArg Prod.fst hc
  simp only at h2
  rw [h1] at h2
  injection h2 with h2
  injection h2 with _ h2
  exact h2.symm
theorem int_wf {n : Nat} (h : n ≤ 1000000) : (Lit.int .i64 (n : Int)).wf = true := by
  have h1 : IntKind.i64.min = -9223372036854775808 := by decide
  have h2 : IntKind.i64.max = 9223372036854775807 := by decide
  simp [Lit.wf]; constructor <;> omega
theorem MapG.store {w : World} {b : Nat} {S : List Gt} (h : MapG w b S) (hl : S.length ≤ 1000000) {g : Gt} (hk : WfG g) (hn : g ∉ S) :
    ∃ w', (Instr.mapUpdate 78 (.map (some b)) (gv g) (.int .i64 (S.length : Int))).run Try.prog w = .ok () w' ∧ MapG w' b (S ++ [g]) ∧ w.grownBy w' (some b) := by
  obtain ⟨D, hD, ha⟩ := h
  obtain ⟨l, hkl⟩ := key_mk hk
  obtain ⟨w', hr, ho, ht⟩ := hD.store keyed69 Try.underlying78 (by unfold maxLen; omega) hkl (plainElem_int Try.underlying3 (int_wf hl))
  refine ⟨w', hr, ⟨_, by rw [List.length_append]; exact ho, fun k l' hk' => ?_⟩, ht.grown⟩
  by_cases e : l' = l
  · subst e
    have : k = g := key_inj hk' hkl
    subst this
    refine ⟨by rw [Maps.has_put_same hD.isMap (keyed69.key hkl)]; simp, fun i hi => ?_⟩
    rw [Maps.atKey_put_same hD.isMap (keyed69.key hkl)]
    have : i = S.length := by
      rcases Nat.lt_or_ge i S.length with h1 | h1
      · rw [List.getElem?_append_left h1] at hi
        exact absurd (List.mem_of_getElem? hi) hn
      · have := (List.getElem?_eq_some_iff.1 hi).1
        simp at this; omega
    rw [this]
  · have hne : k ≠ g := fun hh => e (by rw [hh, hkl] at hk'; injection hk' with hk'; exact hk'.symm)
    have h1 := ha k l' hk'
    refine ⟨by rw [Maps.has_put_other e, h1.1]; simp [hne], fun i hi => ?_⟩
    rw [Maps.atKey_put_other e]
    refine h1.2 i ?_
    rcases Nat.lt_or_ge i S.length with h2 | h2
    · rw [List.getElem?_append_left h2] at hi; exact hi
    · rw [List.getElem?_append_right h2] at hi
      obtain ⟨d, hd⟩ : ∃ d, i - S.length = d := ⟨_, rfl⟩
      rw [hd] at hi
      cases d with
      | zero => simp at hi; exact absurd hi.symm hne
      | succ d => simp at hi
end Go.Proofs.Ythagoihpppppkaa
