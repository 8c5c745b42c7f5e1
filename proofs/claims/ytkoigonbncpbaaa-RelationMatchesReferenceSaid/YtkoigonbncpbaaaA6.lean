/- A set in a map: the store and the look-up where they stand. -/
import Derived.Test.YtkoigonbncpbaaaA5
namespace Go.Proofs.Ytkoigonbncpbaaa
open Go.RowKit Go.Maps Go.Sort Go.Shelf

theorem wf64 {k : Int} (h0 : -9223372036854775808 ≤ k) (h1 : k ≤ 9223372036854775807) : (Lit.int .i64 k).wf = true := WalkArith.wf_i64 (by omega)

theorem plainElem_bool_inv {v : Value} {z : DataW Unit × List MemPlace} (h : plainElem Try.prog 4 v = some z) : ∃ b, v = .bool b ∧ z = (.lit (.bool b), []) := by
  unfold plainElem at h
  rw [Try.underlying4] at h
  cases v <;> simp at h
  exact ⟨_, rfl, h.symm⟩

theorem zero4 (w : World) : (zeroValue 4).run Try.prog w = .ok (.bool false) w := by kernel_rfl

/-- The look-up. -/
theorem SetM.look {w : World} {b : Nat} {S : List Int} (h : SetM w b S) {k : Int} (hk : (Lit.int .i64 k).wf = true) : (Instr.lookup 52 (.map (some b)) (.int .i64 k) false).run Try.prog w = .ok (.bool (decide (k ∈ S))) w := by
  obtain ⟨v, ps, hr, hv⟩ := h.1.lookup (Maps.int_keyed Try.underlying3) Try.underlying52 (zero4 w) (plainElem_bool Try.underlying4 false) (Maps.keyOf_int_mk Try.underlying3 hk)
  rw [atKey_setOf] at hv
  obtain ⟨x, rfl, hx⟩ := plainElem_bool_inv hv
  rw [hr]
  by_cases hm : k ∈ S
  · rw [if_pos hm] at hx
    simp at hx
    simp [hm, hx.1]
  · rw [if_neg hm] at hx
    simp at hx
    simp [hm, hx.1]

/-- The store. -/
theorem SetM.store {w : World} {b : Nat} {S : List Int} (h : SetM w b S) (hl : S.length ≤ 1000000) {k : Int} (hk : (Lit.int .i64 k).wf = true) :
    ∃ w', (Instr.mapUpdate 52 (.map (some b)) (.int .i64 k) (.bool true)).run Try.prog w = .ok () w' ∧ SetM w' b (S ++ [k]) ∧ w.grownBy w' (some b) := by
  obtain ⟨w', hr, ho, ht⟩ := h.1.store (Maps.int_keyed Try.underlying3) Try.underlying52 (by unfold maxLen; omega) (Maps.keyOf_int_mk Try.underlying3 hk) (plainElem_bool Try.underlying4 true)
  refine ⟨w', hr, ⟨?_, ?_⟩, ht.grown⟩
  · rw [List.map_append, List.map_singleton, Maps.setOf_snoc, List.length_append]
    exact ho
  · intro x hx
    rcases List.mem_append.1 hx with hx | hx
    · exact h.2 x hx
    · rw [List.mem_singleton.1 hx]; exact hk

/-- The store, in a region that draws its order. -/
theorem ready_setM {ops : Array Oper} {o : Oper} {a : Act} {Q : Exit → Act → World → Prop} {K' : Act → World → Prop} {w : World} (m x : Operand) (hgd : o.guard = none)
    (ho : o.op = .mapUpdate 52 m x (.const (.bool true))) (b : Nat) (S : List Int) (hm : a.eval m = .map (some b)) (hown : SetM w b S) (hl : S.length ≤ 1000000) (k : Int) (hx : a.eval x = .int .i64 k) (hk : (Lit.int .i64 k).wf = true)
    (h : ∀ w', SetM w' b (S ++ [k]) → w.grownBy w' (some b) → K' (a.put o.dst undef) w') :
    if Region.wanted o (yielded ops a.tmps) = true then Oper.wp Try.prog o a w K' Q else K' (a.put o.dst undef) w := by
  obtain ⟨w', hr, h2, h3⟩ := hown.store hl hk
  have hw : Region.wanted o (yielded ops a.tmps) = true := by simp only [Region.wanted, hgd]
  rw [if_pos hw]
  unfold Oper.wp
  have hv : a.eval (.const (.bool true)) = .bool true := rfl
  simp [execOp, ho, hm, hx, hv, hr, Result.andThen]
  exact h w' h2 h3

/-- The store, elsewhere. -/
theorem wpList_setM {ops : Array Oper} {rest : List Oper} {o : Oper} {a : Act} {Q : Exit → Act → World → Prop} {w : World} (hg : o.guard = none) (m x : Operand) (hop : o.op = Op.mapUpdate 52 m x (.const (.bool true)))
    (b : Nat) (S : List Int) (hm : a.eval m = .map (some b)) (hown : SetM w b S) (hl : S.length ≤ 1000000) (k : Int) (hx : a.eval x = .int .i64 k) (hk : (Lit.int .i64 k).wf = true)
    (hK : ∀ w', SetM w' b (S ++ [k]) → w.grownBy w' (some b) → wpList Try.prog ops Q rest (a.put o.dst undef) w') : wpList Try.prog ops Q (o :: rest) a w := by
  refine wpList_plain hg fun K' hK' => ?_
  obtain ⟨w', hr, h2, h3⟩ := hown.store hl hk
  unfold Oper.wp
  have hv : a.eval (.const (.bool true)) = .bool true := rfl
  simp [execOp, hop, hm, hx, hv, hr, Result.andThen]
  exact hK' _ _ (hK w' h2 h3)
end Go.Proofs.Ytkoigonbncpbaaa
