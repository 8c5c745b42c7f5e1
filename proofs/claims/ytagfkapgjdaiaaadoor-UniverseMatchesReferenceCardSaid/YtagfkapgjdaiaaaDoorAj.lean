/- Names of atoms differ as the atoms do. -/
import Derived.Test.YtagfkapgjdaiaaaDoorG
import Derived.Test.YtagfkapgjdaiaaaDoorJ
namespace Go.Proofs.YtagfkapgjdaiaaaDoor
open Go.RowKit

/-- The name of an atom of a sort with this name, the k-th of that sort. -/
def nameOf (p : ByteArray) (k : Nat) : ByteArray := (p ++ ⟨#[36]⟩) ++ ⟨(Lib.decDigits k).toArray⟩
def plainName (p : ByteArray) : Prop := ∀ c ∈ p.data.toList, c ≠ 36
theorem nameOf_list (p : ByteArray) (k : Nat) : (nameOf p k).data.toList = p.data.toList ++ 36 :: Lib.decDigits k := by
  simp [nameOf]
theorem part_at {a b x y : List UInt8} (ha : ∀ c ∈ a, c ≠ 36) (hb : ∀ c ∈ b, c ≠ 36) (h : a ++ 36 :: x = b ++ 36 :: y) : a = b ∧ x = y := by
  induction a generalizing b with
  | nil =>
    cases b with
    | nil => simpa using h
    | cons c b => simp at h; exact absurd h.1.symm (hb c (by simp))
  | cons c a ih =>
    cases b with
    | nil => simp at h; exact absurd h.1 (ha c (by simp))
    | cons d b =>
      simp at h
      obtain ⟨h1, h2⟩ := ih (fun e he => ha e (by simp [he])) (fun e he => hb e (by simp [he])) h.2
      exact ⟨by rw [h.1, h1], h2⟩
theorem bytes_ext {a b : ByteArray} (h : a.data.toList = b.data.toList) : a = b := by
  cases a; cases b; simp at h; congr
theorem ne_list {r s : ByteArray} (h : r ≠ s) : (r.toList == s.toList) = false := by
  rw [beq_eq_false_iff_ne, ByteArray.toList_eq, ByteArray.toList_eq]
  exact fun e => h (bytes_ext e)
theorem nameOf_inj {p q : ByteArray} {j k : Nat} (hp : plainName p) (hq : plainName q) (hj : j < 10) (hk : k < 10) (h : nameOf p j = nameOf q k) : p = q ∧ j = k := by
  have h1 := congrArg (fun s : ByteArray => s.data.toList) h
  simp only [nameOf_list] at h1
  obtain ⟨h2, h3⟩ := part_at hp hq h1
  rw [Lib.decDigits_one hj, Lib.decDigits_one hk] at h3
  refine ⟨bytes_ext h2, ?_⟩
  injection h3 with h3 _
  have h4 := congrArg UInt8.toNat h3
  simp only [UInt8.toNat_ofNat'] at h4
  omega
theorem size_list (b : ByteArray) : b.size = b.data.toList.length := by rw [Array.length_toList]; rfl
theorem nameOf_size {p : ByteArray} {k : Nat} (hk : k < 10) : (nameOf p k).size = p.size + 2 := by
  rw [size_list, nameOf_list, Lib.decDigits_one hk, size_list]
  simp
theorem dollar_size (p : ByteArray) : (p ++ ⟨#[36]⟩).size = p.size + 1 := by
  rw [size_list, ByteArray.toList_data_append, size_list p]
  simp
theorem nameOf_prefix (p : ByteArray) (k : Nat) : (nameOf p k).extract 0 (p ++ ⟨#[36]⟩).size = p ++ ⟨#[36]⟩ := by
  refine bytes_ext ?_
  rw [ByteArray.data_extract, Array.toList_extract, nameOf, ByteArray.toList_data_append, size_list (p ++ ⟨#[36]⟩)]
  simp [List.extract]
  rw [size_list, show p.data.toList ++ 36 :: Lib.decDigits k = (p.data.toList ++ [36]) ++ Lib.decDigits k by simp, List.take_left' (by simp)]
theorem nameOf_ne (p : ByteArray) (k : Nat) : nameOf p k ≠ ByteArray.empty := fun h => by
  have h1 := congrArg (fun s : ByteArray => s.data.toList) h
  simp [nameOf_list] at h1
end Go.Proofs.YtagfkapgjdaiaaaDoor
