/- What the shortest model keeps: validity; that nothing shorter has its trace. -/
import Derived.Test.YtbddpjofhddilaaNSE
import Derived.Test.YtbddpjofhddilaaNSM
namespace Go.Proofs.Ytbddpjofhddilaa
open Go.RowKit

theorem validM_parts {k : Nat} {us : List Int} {st : Int} {F : List Fd} {L : List (List Rl)} {lp : Int} (h : validM k us st F L lp = true) :
    validI k us st = true ∧ (L.length : Int) = st ∧ loopedB L.length lp = true ∧ allM (us.map Int.toNat) F L = true ∧ oddState F.length L = false := by
  unfold validM at h
  simp only [Bool.and_eq_true, decide_eq_true_eq, Bool.not_eq_true'] at h
  exact ⟨h.1.1.1.1, h.1.1.1.2, h.1.1.2, h.1.2, h.2⟩
theorem validM_mk {k : Nat} {us : List Int} {st : Int} {F : List Fd} {L : List (List Rl)} {lp : Int} (h0 : validI k us st = true) (h1 : (L.length : Int) = st) (h2 : loopedB L.length lp = true) (h3 : allM (us.map Int.toNat) F L = true) (h4 : oddState F.length L = false) : validM k us st F L lp = true := by
  unfold validM
  rw [h0, decide_eq_true h1, h2, h3, h4]; rfl
theorem validI_st {k : Nat} {us : List Int} {st st' : Int} (h : validI k us st = true) (h1 : 1 ≤ st') (h4 : st' ≤ 4) : validI k us st' = true := by
  simp only [validI, Bool.and_eq_true, decide_eq_true_eq] at h ⊢
  exact ⟨⟨⟨⟨h.1.1.1.1, h1⟩, h4⟩, h.1.2⟩, h.2⟩
theorem validI_four {k : Nat} {us : List Int} {st : Int} (h : validI k us st = true) : 1 ≤ st ∧ st ≤ 4 ∧ us.length ≤ 4 := by
  simp only [validI, Bool.and_eq_true, decide_eq_true_eq] at h
  obtain ⟨⟨⟨⟨⟨a, b⟩, c⟩, d⟩, _⟩, _⟩ := h
  exact ⟨c, d, by omega⟩
/-- A model of some of a valid model's states is valid. -/
theorem validM_sub {k : Nat} {us : List Int} {st st' : Int} {F : List Fd} {L L' : List (List Rl)} {lp lp' : Int} (h : validM k us st F L lp = true) (hsub : ∀ l ∈ L', l ∈ L) (hlen : (L'.length : Int) = st') (h1 : 1 ≤ st') (h4 : st' ≤ 4) (hlo : loopedB L'.length lp' = true) :
    validM k us st' F L' lp' = true := by
  obtain ⟨k0, k1, k2, k3, k4⟩ := validM_parts h
  refine validM_mk (validI_st k0 h1 h4) hlen hlo ?_ ?_
  · unfold allM at k3 ⊢
    rw [List.all_eq_true] at k3 ⊢
    intro i hi
    have hf := k3 i hi
    unfold fieldsB at hf ⊢
    rw [List.all_eq_true] at hf ⊢
    intro l hl
    have h0 := hf l (hsub l hl)
    have hL' : L'.getD 0 [] ∈ L := by
      cases L' with
      | nil => cases hl
      | cons x t => exact hsub x (by simp)
    have h00 := hf _ hL'
    unfold fieldB at h0 h00 ⊢
    simp only [Bool.and_eq_true, Bool.or_eq_true, decide_eq_true_eq] at h0 h00 ⊢
    refine ⟨h0.1, ?_⟩
    rcases h0.2 with h2 | h2
    · exact .inl h2
    · rcases h00.2 with h3 | h3
      · exact .inl h3
      · exact .inr (h2.trans h3.symm)
  · unfold oddState at k4 ⊢
    rw [List.any_eq_false] at k4 ⊢
    exact fun l hl => k4 l (hsub l hl)
theorem sh_looped {L : List (List Rl)} {p : Nat} (h : p < L.length) (hk : L.length ≤ 64) : loopedB (shSts L p).length (shLoop L p : Nat) = true := by
  have h1 := sh_loop_le h
  have h2 := sh_per_le h
  rw [sh_len]
  exact loopedB_iff.2 (by omega)
theorem sh_len_le {L : List (List Rl)} {p : Nat} (h : p < L.length) : (shSts L p).length ≤ L.length := by
  have h1 := sh_loop_le h
  have h2 := sh_per_le h
  rw [sh_len]
  omega
/-- No model of fewer states has the trace. -/
theorem sh_none {us us' : List Int} {L L' : List (List Rl)} {p q : Nat} (h : p < L.length) (h' : q < L'.length) (hn : L'.length < (shSts L p).length) : sameB us us' L' L q p = false := by
  cases hs : sameB us us' L' L q p with
  | false => rfl
  | true =>
    have ht := ((sameB_iff h' h).1 hs).2
    have he : trL L p = trL L' q := funext fun t => (ht t).symm
    have hf := (sh_shortest h).fits (a := q) (q := L'.length - q) (by omega) (he ▸ trL_per h')
    rw [sh_len] at hn
    omega
/-- The shortest model is its own shortest model. -/
theorem sh_idem {L : List (List Rl)} {p : Nat} (h : p < L.length) : shSts (shSts L p) (shLoop L p) = shSts L p ∧ shLoop (shSts L p) (shLoop L p) = shLoop L p := by
  have hlt : shLoop L p < (shSts L p).length := by rw [sh_len]; have := (sh_per_le h).1; omega
  exact sh_same hlt h (sh_trace h)
theorem held_nextX {wr W W' : World} {a0 a1 a2 a3 a4 a5 a6 a7 a8 a9 a10 a11 : Addr} {v0 v1 v2 v3 v4 v5 v6 v7 v8 v9 v10 v11 : Value} (g : W.grownBy W' none) (h : wr.grownBy W none) (h0 : W.cell? a0 = some v0) (h1 : W.cell? a1 = some v1) (h2 : W.cell? a2 = some v2) (h3 : W.cell? a3 = some v3) (h4 : W.cell? a4 = some v4) (h5 : W.cell? a5 = some v5) (h6 : W.cell? a6 = some v6) (h7 : W.cell? a7 = some v7) (h8 : W.cell? a8 = some v8) (h9 : W.cell? a9 = some v9) (h10 : W.cell? a10 = some v10) (h11 : W.cell? a11 = some v11) :
    wr.grownBy W' none ∧ W'.cell? a0 = some v0 ∧ W'.cell? a1 = some v1 ∧ W'.cell? a2 = some v2 ∧ W'.cell? a3 = some v3 ∧ W'.cell? a4 = some v4 ∧ W'.cell? a5 = some v5 ∧ W'.cell? a6 = some v6 ∧ W'.cell? a7 = some v7 ∧ W'.cell? a8 = some v8 ∧ W'.cell? a9 = some v9 ∧ W'.cell? a10 = some v10 ∧ W'.cell? a11 = some v11 :=
  ⟨h.trans g, g.cell h0 (by simp), g.cell h1 (by simp), g.cell h2 (by simp), g.cell h3 (by simp), g.cell h4 (by simp), g.cell h5 (by simp), g.cell h6 (by simp), g.cell h7 (by simp), g.cell h8 (by simp), g.cell h9 (by simp), g.cell h10 (by simp), g.cell h11 (by simp)⟩
theorem held_nextE {wr W W' : World} {a0 a1 a2 a3 a4 a5 a6 a7 : Addr} {v0 v1 v2 v3 v4 v5 v6 v7 : Value} (g : W.grownBy W' none) (h : wr.grownBy W none) (h0 : W.cell? a0 = some v0) (h1 : W.cell? a1 = some v1) (h2 : W.cell? a2 = some v2) (h3 : W.cell? a3 = some v3) (h4 : W.cell? a4 = some v4) (h5 : W.cell? a5 = some v5) (h6 : W.cell? a6 = some v6) (h7 : W.cell? a7 = some v7) :
    wr.grownBy W' none ∧ W'.cell? a0 = some v0 ∧ W'.cell? a1 = some v1 ∧ W'.cell? a2 = some v2 ∧ W'.cell? a3 = some v3 ∧ W'.cell? a4 = some v4 ∧ W'.cell? a5 = some v5 ∧ W'.cell? a6 = some v6 ∧ W'.cell? a7 = some v7 :=
  ⟨h.trans g, g.cell h0 (by simp), g.cell h1 (by simp), g.cell h2 (by simp), g.cell h3 (by simp), g.cell h4 (by simp), g.cell h5 (by simp), g.cell h6 (by simp), g.cell h7 (by simp)⟩
end Go.Proofs.Ytbddpjofhddilaa
