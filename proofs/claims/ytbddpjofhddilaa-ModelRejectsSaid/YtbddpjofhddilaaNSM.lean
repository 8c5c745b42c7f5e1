/- The law of the equivalence. -/
import Derived.Test.YtbddpjofhddilaaNSB
import Derived.Deep.RegionHeld3
namespace Go.Proofs.Ytbddpjofhddilaa
open Go.RowKit

/-- What SameTrace answers. -/
def sameB (us us' : List Int) (L L' : List (List Rl)) (lp lp' : Int) : Bool := decide (us = us') && agreeTo L L' lp lp' (timesN L.length L'.length lp lp')
theorem sameB_iff {us us' : List Int} {L L' : List (List Rl)} {p p' : Nat} (h : p < L.length) (h' : p' < L'.length) : sameB us us' L L' p p' = true ↔ us = us' ∧ ∀ t, trL L p t = trL L' p' t := by
  unfold sameB
  rw [Bool.and_eq_true, decide_eq_true_eq, agreeTo_all h h']
theorem sameB_refl {us : List Int} {L : List (List Rl)} {p : Nat} (h : p < L.length) : sameB us us L L p p = true := (sameB_iff h h).2 ⟨rfl, fun _ => rfl⟩
theorem sameB_symm {us us' : List Int} {L L' : List (List Rl)} {p p' : Nat} (h : p < L.length) (h' : p' < L'.length) : sameB us us' L L' p p' = sameB us' us L' L p' p := by
  rw [Bool.eq_iff_iff, sameB_iff h h', sameB_iff h' h]
  exact ⟨fun ⟨a, b⟩ => ⟨a.symm, fun t => (b t).symm⟩, fun ⟨a, b⟩ => ⟨a.symm, fun t => (b t).symm⟩⟩
theorem sameB_trans {us us' us'' : List Int} {L L' L'' : List (List Rl)} {p p' p'' : Nat} (h : p < L.length) (h' : p' < L'.length) (h'' : p'' < L''.length) (k : sameB us us' L L' p p' = true) (k' : sameB us' us'' L' L'' p' p'' = true) : sameB us us'' L L'' p p'' = true := by
  obtain ⟨a, b⟩ := (sameB_iff h h').1 k
  obtain ⟨a', b'⟩ := (sameB_iff h' h'').1 k'
  exact (sameB_iff h h'').2 ⟨a.trans a', fun t => (b t).trans (b' t)⟩
/-- Equal shortest models. -/
theorem sameB_short {us us' : List Int} {L L' : List (List Rl)} {p p' : Nat} (h : p < L.length) (h' : p' < L'.length) :
    modelEq us us' ((shLoop L p + shPer L p : Nat) : Int) ((shLoop L' p' + shPer L' p' : Nat) : Int) (shLoop L p : Nat) (shLoop L' p' : Nat) (shSts L p) (shSts L' p') = sameB us us' L L' p p' := by
  rw [Bool.eq_iff_iff, sameB_iff h h', ← sh_same_iff h h']
  simp only [modelEq, Bool.and_eq_true, decide_eq_true_eq]
  constructor
  · rintro ⟨⟨⟨a, _⟩, b⟩, c⟩
    exact ⟨a, c, by omega⟩
  · rintro ⟨a, b, c⟩
    have := congrArg List.length b
    rw [sh_len, sh_len] at this
    exact ⟨⟨⟨a, by omega⟩, by omega⟩, b⟩
theorem sameB_of_eq {us us' : List Int} {st st' : Int} {L L' : List (List Rl)} {p p' : Nat} (h : p < L.length) (h' : p' < L'.length) (he : modelEq us us' st st' (p : Int) (p' : Int) L L' = true) : sameB us us' L L' p p' = true := by
  simp only [modelEq, Bool.and_eq_true, decide_eq_true_eq] at he
  obtain ⟨⟨⟨a, _⟩, b⟩, c⟩ := he
  have : p = p' := by omega
  subst this c
  exact (sameB_iff h h').2 ⟨a, fun _ => rfl⟩
end Go.Proofs.Ytbddpjofhddilaa
