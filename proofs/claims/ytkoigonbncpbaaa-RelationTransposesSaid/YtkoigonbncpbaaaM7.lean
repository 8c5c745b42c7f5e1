/- Plain: transposes. -/
import Derived.Test.YtkoigonbncpbaaaB7s
namespace Go.Proofs.Ytkoigonbncpbaaa
open Go.RowKit

section
variable {n : Nat} {A B : List Int}
theorem trn_twice (hA : VR n 2 A) (hn : 1 ≤ n) : uniq (turnL n (uniq (turnL n A))) = A := vr2_ext ((hA.turn hn).turn hn) hA fun x y hx hy => by rw [hs_turn (hA.turn hn) hx hy, hs_turn hA hy hx]
theorem trn_join (hA : VR n 2 A) (hB : VR n 2 B) (hn : 1 ≤ n) :
    uniq (turnL n (uniq (joinP n (n ^ (2 - 1)) A B))) = uniq (joinP n (n ^ (2 - 1)) (uniq (turnL n B)) (uniq (turnL n A))) :=
  vr2_ext ((VR.join2 hA hB hn).turn hn) (VR.join2 (hB.turn hn) (hA.turn hn) hn) fun x y hx hy => by
    rw [hs_turn (VR.join2 hA hB hn) hx hy, hs_join2 hA hB hn hx, hs_join2 (hB.turn hn) (hA.turn hn) hn hy]
    constructor
    · rintro ⟨m, hm, h1, h2⟩
      exact ⟨m, hm, (hs_turn hB hx hm).2 h2, (hs_turn hA hm hy).2 h1⟩
    · rintro ⟨m, hm, h1, h2⟩
      exact ⟨m, hm, (hs_turn hA hm hy).1 h2, (hs_turn hB hx hm).1 h1⟩
theorem trn_union (hA : VR n 2 A) (hB : VR n 2 B) (hn : 1 ≤ n) : uniq (turnL n (unionL A B)) = unionL (uniq (turnL n A)) (uniq (turnL n B)) :=
  vr2_ext ((hA.union hB).turn hn) ((hA.turn hn).union (hB.turn hn)) fun x y hx hy => by
    rw [hs_turn (hA.union hB) hx hy, hs_union hA hB, hs_union (hA.turn hn) (hB.turn hn), hs_turn hA hx hy, hs_turn hB hx hy]
theorem trn_sub (hA : VR n 2 A) (hB : VR n 2 B) (hn : 1 ≤ n) : (∀ z ∈ uniq (turnL n A), z ∈ uniq (turnL n B)) ↔ ∀ z ∈ A, z ∈ B := by
  constructor
  · intro h
    exact vr2_sub hA fun x y hx hy hz => (hs_turn hB hy hx).1 (h _ ((hs_turn hA hy hx).2 hz))
  · intro h
    exact vr2_sub (hA.turn hn) fun x y hx hy hz => (hs_turn hB hx hy).2 (h _ ((hs_turn hA hx hy).1 hz))
theorem trn_iden (hn : 1 ≤ n) : uniq (turnL n (idenL n)) = idenL n := vr2_ext ((VR.iden n).turn hn) (VR.iden n) fun x y hx hy => by
  rw [hs_turn (VR.iden n) hx hy, hs_iden hy hx, hs_iden hx hy]; exact eq_comm
theorem trn_full (hA : VR n 2 A) (hn : 1 ≤ n) : uniq (joinP n (n ^ (1 - 1)) A (fullL n 1)) = uniq (joinP n (n ^ (2 - 1)) (fullL n 1) (uniq (turnL n A))) :=
  vr_ext (k := 1) (VR.join hA (VR.full n 1) hn (by omega) (by omega)) (VR.join (VR.full n 1) (hA.turn hn) hn (by omega) (by omega)) fun z hz => by
    have hz' : z < n := by simpa using hz
    have h1 := hs_join hA (VR.full n 1) hn (by omega) (by omega) (u := z) (v := 0) (by simp)
    have h2 := hs_join (VR.full n 1) (hA.turn hn) hn (by omega) (by omega) (u := 0) (v := z) (by simpa using hz')
    have e1 : z * n ^ (1 - 1) + 0 = z := by simp
    have e2 : 0 * n ^ (2 - 1) + z = z := by simp
    rw [e1] at h1
    rw [e2] at h2
    rw [h1, h2]
    constructor
    · rintro ⟨m, hm, h3, _⟩
      refine ⟨m, hm, hs_full.2 (by simpa using hm), ?_⟩
      rw [show n ^ (2 - 1) = n by simp]
      exact (hs_turn hA hm hz').2 h3
    · rintro ⟨m, hm, _, h3⟩
      rw [show n ^ (2 - 1) = n by simp] at h3
      exact ⟨m, hm, (hs_turn hA hm hz').1 h3, hs_full.2 (by simpa using hm)⟩
end
end Go.Proofs.Ytkoigonbncpbaaa
