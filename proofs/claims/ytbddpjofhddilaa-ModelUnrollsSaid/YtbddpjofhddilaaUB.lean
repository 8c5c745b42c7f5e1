/- The number of digits; the rank of a tuple; two equal tuples. -/
import Derived.Test.YtbddpjofhddilaaUA
namespace Go.Proofs.Ytbddpjofhddilaa
open Go.RowKit

/-- The number with these digits. -/
def num (base : Nat) (ds : List Nat) : Nat := ds.foldl (fun v d => v * base + d) 0
theorem num_snoc (base : Nat) (ds : List Nat) (d : Nat) : num base (ds ++ [d]) = num base ds * base + d := by simp [num]

set_option maxHeartbeats 1000000 in
theorem number_calls (base : Nat) (ds : List Nat) (a : Option Addr) (c : Nat) (w : World) (h : Nums w a c ds) (hb : base ≤ 1000) (hd : ∀ d ∈ ds, d ≤ 1000000) (hn : ∀ m, num base (ds.take m) ≤ 1000000) (hl : ds.length ≤ 100) :
    Calls Try.prog 89 #[.int .i64 (base : Int), .slice a ds.length c] w fun e w' => e = .returned (.int .i64 (num base ds : Nat)) ∧ w' = w := by
  obtain ⟨n, hln⟩ : ∃ n, ds.length = n := ⟨_, rfl⟩
  rw [hln] at hl ⊢
  have HD := Lib.hid (And.intro hd (And.intro hn (And.intro hln h))); clear hd hn hln h
  go_enter Try.func89, Try.ntmps89
  go_wp2
  go_loopg [5, 7, 10] n (fun g s5 s7 s10 wr => ∃ i : Nat, s5 = .int .i64 (num base (ds.take i) : Nat) ∧ s10 = .int .i64 (i : Int) ∧ g = n - i ∧ i ≤ n ∧ wr = w)
  case atStart => exact ⟨0, rfl, rfl, rfl, Nat.zero_le _, rfl⟩
  case round =>
    obtain ⟨i, rfl, rfl, hgi, hi, rfl⟩ := hrel
    have HGI := Lib.hid hgi; clear hgi
    by_cases hin : i < n
    · have hinB : decide (i < n) = true := by simp; omega
      have hinI : (i : Int) < (n : Int) := by omega
      have hln := HD.out.2.2.1
      obtain ⟨z, hz⟩ : ∃ z, ds[i]? = some z := ⟨_, List.getElem?_eq_getElem (by omega)⟩
      have hz5 := HD.out.1 z (List.mem_of_getElem? hz)
      obtain ⟨b, o, rfl, hcell⟩ : ∃ b o, a = some ⟨b, o, none⟩ ∧ wr.cell? ⟨b, o + i, none⟩ = some (.int .i64 (z : Int)) := by
        obtain ⟨_, ⟨h, _⟩ | ⟨b, o, ha, _, hc⟩⟩ := HD.out.2.2.2
        · rw [h] at hz; simp at hz
        · exact ⟨b, o, ha, hc i z hz⟩
      have hs := HD.out.2.1 i
      have hsn : num base (ds.take (i + 1)) = num base (ds.take i) * base + z := by
        rw [List.take_add_one, hz, Option.toList_some, num_snoc]
      obtain ⟨S, hS⟩ : ∃ S, num base (ds.take i) = S := ⟨_, rfl⟩
      rw [hS] at hs hsn ⊢
      have hmul : (S : Int) * (base : Int) ≤ 1000000000 := by
        have h1 : S * base ≤ 1000000 * 1000 := Nat.mul_le_mul hs hb
        have h2 : ((S * base : Nat) : Int) ≤ 1000000000 := by omega
        rwa [Int.natCast_mul] at h2
      have hmul0 : 0 ≤ (S : Int) * (base : Int) := Int.mul_nonneg (by omega) (by omega)
      have HSN := Lib.hid hsn; clear hsn hS hz hln
      go_wp2
      go_roundg (n - (i + 1))
      case measure => rw [HGI.out]; omega
      case rel => exact ⟨i + 1, by rw [HSN.out]; simp, rfl, rfl, by omega, rfl⟩
    · have hie : i = n := by omega
      subst hie
      have hinB : decide (i < i) = false := by simp
      go_wp2
      go_ret
      exact ⟨by rw [← HD.out.2.2.1, List.take_length]; rfl, rfl⟩
end Go.Proofs.Ytbddpjofhddilaa
