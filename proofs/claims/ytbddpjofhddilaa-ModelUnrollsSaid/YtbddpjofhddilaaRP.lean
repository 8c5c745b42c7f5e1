/- A set of one atom, as the law makes it. -/
import Derived.Test.YtbddpjofhddilaaRO
namespace Go.Proofs.Ytbddpjofhddilaa
open Go.RowKit

set_option maxRecDepth 100000 in
set_option maxHeartbeats 1000000 in
theorem set_calls (x : Int) (w : World) :
    Calls Try.prog 61 #[.int .i64 x] w fun e w' => ∃ a' c', e = .returned (.slice a' 1 c') ∧ Span w.heap.size w'.heap.size w' (fun W => Rels W a' c' [(1, [x])]) ∧ w.grownBy w' none := by
  have hg1 := World.grownBy_alloc w (.cells #[.int .i64 x] 3) none
  have hg2 := World.grownBy_alloc (w.alloc (.cells #[.int .i64 x] 3)) (.cells #[.int .i64 1, .slice (some ⟨w.heap.size, 0, none⟩) 1 1] 53) none
  have HG := Lib.hid (hg1.trans hg2)
  have hc : ((w.alloc (.cells #[.int .i64 x] 3)).alloc (.cells #[.int .i64 1, .slice (some ⟨w.heap.size, 0, none⟩) 1 1] 53)).cell? ⟨w.heap.size, 0, none⟩ = some (.int .i64 x) ∧
      ((w.alloc (.cells #[.int .i64 x] 3)).alloc (.cells #[.int .i64 1, .slice (some ⟨w.heap.size, 0, none⟩) 1 1] 53)).cell? ⟨w.heap.size + 1, 0, none⟩ = some (.int .i64 1) ∧
      ((w.alloc (.cells #[.int .i64 x] 3)).alloc (.cells #[.int .i64 1, .slice (some ⟨w.heap.size, 0, none⟩) 1 1] 53)).cell? ⟨w.heap.size + 1, 1, none⟩ = some (.slice (some ⟨w.heap.size, 0, none⟩) 1 1) := ⟨by go_simp, by go_simp, by go_simp⟩
  have hsz : ((w.alloc (.cells #[.int .i64 x] 3)).alloc (.cells #[.int .i64 1, .slice (some ⟨w.heap.size, 0, none⟩) 1 1] 53)).heap.size = w.heap.size + 2 := by simp
  have HS : Hid (Span w.heap.size ((w.alloc (.cells #[.int .i64 x] 3)).alloc (.cells #[.int .i64 1, .slice (some ⟨w.heap.size, 0, none⟩) 1 1] 53)).heap.size ((w.alloc (.cells #[.int .i64 x] 3)).alloc (.cells #[.int .i64 1, .slice (some ⟨w.heap.size, 0, none⟩) 1 1] 53)) (fun W => Rels W (some ⟨w.heap.size + 1, 0, none⟩) 1 [(1, [x])])) := Lib.hid (by
    obtain ⟨V, hV⟩ : ∃ V, (w.alloc (.cells #[.int .i64 x] 3)).alloc (.cells #[.int .i64 1, .slice (some ⟨w.heap.size, 0, none⟩) 1 1] 53) = V := ⟨_, rfl⟩
    rw [hV] at hc hsz ⊢
    refine ⟨Nat.le_refl _, fun W hW => ⟨Nat.le_refl _, fun j r hj => ?_⟩⟩
    match j, hj with
    | 0, hj =>
      simp at hj
      subst hj
      have h0 := hW w.heap.size (Nat.le_refl _) (by omega)
      have h1 := hW (w.heap.size + 1) (by omega) (by omega)
      refine ⟨w.heap.size + 1, 0, rfl, ?_, some ⟨w.heap.size, 0, none⟩, 1, ?_, ?_⟩
      · rw [Nat.zero_mul, Nat.add_zero, World.cell?_of_block (a := ⟨w.heap.size + 1, 0, none⟩) h1]; exact hc.2.1
      · rw [Nat.zero_mul, Nat.add_zero, Nat.zero_add, World.cell?_of_block (a := ⟨w.heap.size + 1, 1, none⟩) h1]; exact hc.2.2
      · refine ⟨Nat.le_refl _, .inr ⟨w.heap.size, 0, rfl, fun j z hj => ?_⟩⟩
        match j, hj with
        | 0, hj =>
          simp at hj
          subst hj
          rw [Nat.add_zero, World.cell?_of_block (a := ⟨w.heap.size, 0, none⟩) h0]; exact hc.1)
  clear hg1 hg2 hc hsz
  go_enter Try.func61, Try.ntmps61
  go_wp2_with fail
  go_ret
  exact ⟨_, _, rfl, HS.out, HG.out⟩
end Go.Proofs.Ytbddpjofhddilaa
