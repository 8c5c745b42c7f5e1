/- Plain: the lattice of relations; and the three relations out of the raw numbers, named. -/
import Derived.Test.YtkoigonbncpbaaaM1
namespace Go.Proofs.Ytkoigonbncpbaaa
open Go.RowKit

section
variable {n k : Nat} {A B C : List Int}
theorem lat_uc (hA : VR n k A) (hB : VR n k B) : unionL A B = unionL B A := vr_ext (hA.union hB) (hB.union hA) fun z _ => by rw [hs_union hA hB, hs_union hB hA]; exact or_comm
theorem lat_ic (hA : VR n k A) (hB : VR n k B) : interL A B = interL B A := vr_ext (hA.inter hB) (hB.inter hA) fun z _ => by rw [hs_inter hA hB, hs_inter hB hA]; exact and_comm
theorem lat_ua (hA : VR n k A) (hB : VR n k B) (hC : VR n k C) : unionL (unionL A B) C = unionL A (unionL B C) := vr_ext ((hA.union hB).union hC) (hA.union (hB.union hC)) fun z _ => by
  rw [hs_union (hA.union hB) hC, hs_union hA hB, hs_union hA (hB.union hC), hs_union hB hC]; exact or_assoc
theorem lat_ia (hA : VR n k A) (hB : VR n k B) (hC : VR n k C) : interL (interL A B) C = interL A (interL B C) := vr_ext ((hA.inter hB).inter hC) (hA.inter (hB.inter hC)) fun z _ => by
  rw [hs_inter (hA.inter hB) hC, hs_inter hA hB, hs_inter hA (hB.inter hC), hs_inter hB hC]; exact and_assoc
theorem lat_d1 (hA : VR n k A) (hB : VR n k B) (hC : VR n k C) : interL A (unionL B C) = unionL (interL A B) (interL A C) := vr_ext (hA.inter (hB.union hC)) ((hA.inter hB).union (hA.inter hC)) fun z _ => by
  rw [hs_inter hA (hB.union hC), hs_union hB hC, hs_union (hA.inter hB) (hA.inter hC), hs_inter hA hB, hs_inter hA hC]; exact and_or_left
theorem lat_d2 (hA : VR n k A) (hB : VR n k B) (hC : VR n k C) : unionL A (interL B C) = interL (unionL A B) (unionL A C) := vr_ext (hA.union (hB.inter hC)) ((hA.union hB).inter (hA.union hC)) fun z _ => by
  rw [hs_union hA (hB.inter hC), hs_inter hB hC, hs_inter (hA.union hB) (hA.union hC), hs_union hA hB, hs_union hA hC]; exact or_and_left
theorem lat_a1 (hA : VR n k A) (hB : VR n k B) : unionL A (interL A B) = A := vr_ext (hA.union (hA.inter hB)) hA fun z _ => by
  rw [hs_union hA (hA.inter hB), hs_inter hA hB]; exact ⟨fun h => h.elim id (·.1), .inl⟩
theorem lat_a2 (hA : VR n k A) (hB : VR n k B) : interL A (unionL A B) = A := vr_ext (hA.inter (hA.union hB)) hA fun z _ => by
  rw [hs_inter hA (hA.union hB), hs_union hA hB]; exact ⟨(·.1), fun h => ⟨h, .inl h⟩⟩
theorem lat_m1 (hF : VR n k C) (hA : VR n k A) (hB : VR n k B) : diffL C (unionL A B) = interL (diffL C A) (diffL C B) := vr_ext (hF.diff (hA.union hB)) ((hF.diff hA).inter (hF.diff hB)) fun z _ => by
  rw [hs_diff hF (hA.union hB), hs_union hA hB, hs_inter (hF.diff hA) (hF.diff hB), hs_diff hF hA, hs_diff hF hB, not_or]
  exact ⟨fun h => ⟨⟨h.1, h.2.1⟩, h.1, h.2.2⟩, fun h => ⟨h.1.1, h.1.2, h.2.2⟩⟩
theorem lat_m2 (hF : VR n k C) (hA : VR n k A) (hB : VR n k B) : diffL C (interL A B) = unionL (diffL C A) (diffL C B) := vr_ext (hF.diff (hA.inter hB)) ((hF.diff hA).union (hF.diff hB)) fun z _ => by
  rw [hs_diff hF (hA.inter hB), hs_inter hA hB, hs_union (hF.diff hA) (hF.diff hB), hs_diff hF hA, hs_diff hF hB, Classical.not_and_iff_not_or_not]; exact and_or_left
theorem lat_in (hA : VR n k A) (hB : VR n k B) : interL A B = A ↔ ∀ z ∈ A, z ∈ B := by
  constructor
  · intro h
    exact vr_sub hA fun z _ hz => by rw [← h] at hz; exact ((hs_inter hA hB).1 hz).2
  · intro h
    exact vr_ext (hA.inter hB) hA fun z _ => by rw [hs_inter hA hB]; exact ⟨(·.1), fun hz => ⟨hz, h _ hz⟩⟩
theorem lat_i1 (hA : VR n k A) (hB : VR n k B) : ∀ z ∈ interL A B, z ∈ A := vr_sub (hA.inter hB) fun _z _ hz => ((hs_inter hA hB).1 hz).1
theorem lat_i2 (hA : VR n k A) (hB : VR n k B) : ∀ z ∈ A, z ∈ unionL A B := vr_sub hA fun _z _ hz => (hs_union hA hB).2 (.inl hz)
theorem lat_i3 (hA : VR n k A) : ∀ z ∈ A, z ∈ fullL n k := vr_sub hA fun _z hz _ => hs_full.2 hz
theorem lat_df (hA : VR n k A) (hB : VR n k B) : diffL A B = diffL A (interL A B) := vr_ext (hA.diff hB) (hA.diff (hA.inter hB)) fun z _ => by
  rw [hs_diff hA hB, hs_diff hA (hA.inter hB), hs_inter hA hB]
  exact ⟨fun h => ⟨h.1, fun q => h.2 q.2⟩, fun h => ⟨h.1, fun q => h.2 ⟨h.1, q⟩⟩⟩
end
theorem lat_count : ∀ (A B : List Int), (unionL A B).length + (interL A B).length = A.length + B.length
  | [], [] => by simp [unionL, interL, mergeL]
  | x :: a, [] => by
    have h := lat_count a []
    simp only [unionL, interL] at h ⊢
    rw [mergeL, mergeL]
    simp [putIf] at h ⊢
    omega
  | [], y :: b => by
    have h := lat_count [] b
    simp only [unionL, interL] at h ⊢
    rw [mergeL, mergeL]
    simp [putIf] at h ⊢
    omega
  | x :: a, y :: b => by
    have h1 := lat_count a (y :: b)
    have h2 := lat_count (x :: a) b
    have h3 := lat_count a b
    simp only [unionL, interL] at h1 h2 h3 ⊢
    rw [mergeL, mergeL]
    split
    · simp [putIf] at h1 ⊢; omega
    · split
      · simp [putIf] at h2 ⊢; omega
      · simp [putIf] at h3 ⊢; omega
termination_by A B => A.length + B.length

/-- The three relations out of the raw numbers, their parts named. -/
theorem threeV {N Ar n k : Nat} {A B C : List Nat} {A' B' C' : List Int} {aa ab ac : Option Addr} {ca cb cc la lb lc l0 l1 l2 : Nat} (hn : 1 + N % 5 = n) (hk : 1 + Ar % 3 = k)
    (hA : fromL n k A = A') (hB : fromL n k B = B') (hC : fromL n k C = C') (h1 : A.length = la) (h2 : B.length = lb) (h3 : C.length = lc) (m0 : A'.length = l0) (m1 : B'.length = l1) (m2 : C'.length = l2) (w : World) (h : RawAt w N Ar A B C aa ab ac ca cb cc) :
    Calls Try.prog 11 #[.agg #[.int .u8 (N : Int), .int .u8 (Ar : Int), .slice aa la ca, .slice ab lb cb, .slice ac lc cc]] w fun e w' => ∃ a0 a1 a2 c0 c1 c2,
      e = .returned (.tuple #[.int .i64 ((n : Nat) : Int), .agg #[.int .i64 ((k : Nat) : Int), .slice a0 l0 c0, .int .i64 ((k : Nat) : Int), .slice a1 l1 c1, .int .i64 ((k : Nat) : Int), .slice a2 l2 c2]]) ∧
      IntsW w' a0 c0 A' ∧ IntsW w' a1 c1 B' ∧ IntsW w' a2 c2 C' ∧ w.grownBy w' none := by
  subst hn hk hA hB hC h1 h2 h3 m0 m1 m2
  exact three_calls N Ar A B C aa ab ac ca cb cc w h
end Go.Proofs.Ytkoigonbncpbaaa
