/- Common texts of the laws of stage 9, joined: VC. -/
import Derived.Test.YtbddpjofhddilaaN13
import Derived.Test.YtbddpjofhddilaaN07
/- The examples' specification; a set. -/
namespace Go.Proofs.Ytbddpjofhddilaa
open Go.RowKit

def fdF : Fd := (⟨#[102]⟩, [0], false)
def fdG : Fd := (⟨#[103]⟩, [0, 1], true)
theorem results90 (tmps : Array Value) (w : World) (b0 b1 : Nat) (v0 v1 v2 v3 u0 u1 : Value) (ht : tmps.getD 0 undef = .pointer (some ⟨b0, 0, none⟩)) (ht1 : tmps.getD 1 undef = .pointer (some ⟨b1, 0, none⟩))
    (h0 : w.cell? ⟨b0, 0, none⟩ = some v0) (h1 : w.cell? ⟨b0, 1, none⟩ = some v1) (h2 : w.cell? ⟨b0, 2, none⟩ = some v2) (h3 : w.cell? ⟨b0, 3, none⟩ = some v3) (k0 : w.cell? ⟨b1, 0, none⟩ = some u0) (k1 : w.cell? ⟨b1, 1, none⟩ = some u1) :
    (results Try.f90 tmps).run Try.prog w = .ok (.tuple #[.agg #[v0, v1, v2, v3], .agg #[u0, u1]]) w := by
  have ht' : tmps[0]?.getD undef = .pointer (some ⟨b0, 0, none⟩) := by simpa using ht
  have ht1' : tmps[1]?.getD undef = .pointer (some ⟨b1, 0, none⟩) := by simpa using ht1
  simp [results, ht', ht1', go_sem, h0, h1, h2, h3, k0, k1, Result.andThen]
theorem fields_two {w : World} {b s1 s2 : Nat} (h0 : w.cell? ⟨b, 0, none⟩ = some (.string ⟨#[102]⟩)) (h1 : w.cell? ⟨b, 1, none⟩ = some (.slice (some ⟨s1, 0, none⟩) 1 1)) (h2 : w.cell? ⟨b, 2, none⟩ = some (.bool false)) (h3 : w.cell? ⟨b, 3, none⟩ = some (.string ⟨#[103]⟩)) (h4 : w.cell? ⟨b, 4, none⟩ = some (.slice (some ⟨s2, 0, none⟩) 2 2)) (h5 : w.cell? ⟨b, 5, none⟩ = some (.bool true))
    (k0 : IntsW w (some ⟨s1, 0, none⟩) 1 [0]) (k1 : IntsW w (some ⟨s2, 0, none⟩) 2 [0, 1]) : Fields w (some ⟨b, 0, none⟩) 2 [fdF, fdG] := by
  refine ⟨Nat.le_refl _, fun j f hj => ?_⟩
  match j, hj with
  | 0, hj => simp at hj; subst hj; exact ⟨b, 0, rfl, h0, ⟨_, _, h1, k0⟩, h2⟩
  | 1, hj => simp at hj; subst hj; exact ⟨b, 0, rfl, h3, ⟨_, _, h4, k1⟩, h5⟩
theorem ints_one {w : World} {b : Nat} {x : Int} (h : w.cell? ⟨b, 0, none⟩ = some (.int .i64 x)) : IntsW w (some ⟨b, 0, none⟩) 1 [x] := ⟨Nat.le_refl _, .inr ⟨b, 0, rfl, fun j z hj => by
  match j, hj with
  | 0, hj => simp at hj; subst hj; exact h⟩⟩
theorem ints_two {w : World} {b : Nat} {x y : Int} (h : w.cell? ⟨b, 0, none⟩ = some (.int .i64 x)) (h1 : w.cell? ⟨b, 1, none⟩ = some (.int .i64 y)) : IntsW w (some ⟨b, 0, none⟩) 2 [x, y] := ⟨Nat.le_refl _, .inr ⟨b, 0, rfl, fun j z hj => by
  match j, hj with
  | 0, hj => simp at hj; subst hj; exact h
  | 1, hj => simp at hj; subst hj; exact h1⟩⟩
set_option maxRecDepth 100000 in
set_option maxHeartbeats 4000000 in
theorem small9_calls (w : World) : Calls Try.prog 90 #[] w fun e w' => ∃ b1 b2 b3, e = .returned (.tuple #[.agg #[.slice (some ⟨b1, 0, none⟩) 2 2, .slice (some ⟨b2, 0, none⟩) 2 2, .slice none 0 0, .slice none 0 0], .agg #[.slice (some ⟨b3, 0, none⟩) 2 2, .int .i64 1]]) ∧ Fields w' (some ⟨b2, 0, none⟩) 2 [fdF, fdG] ∧ Ints w' (some ⟨b3, 0, none⟩) 2 [2, 1] ∧ w.grownBy w' none := by
  go_enter Try.func90, Try.ntmps90
  go_wp2_with fail
  refine bodyPost_ret (results90 _ _ w.heap.size (w.heap.size + 1) _ _ _ _ _ _ rfl rfl (by go_simp; rfl) (by go_simp; rfl) (by go_simp; rfl) (by go_simp; rfl) (by go_simp; rfl) (by go_simp; rfl)) rfl ?_
  refine ⟨_, _, _, rfl, fields_two (s1 := w.heap.size + 1 + 1 + 1) (s2 := w.heap.size + 1 + 1 + 1 + 1) (by go_simp) (by go_simp) (by go_simp) (by go_simp) (by go_simp) (by go_simp) (ints_one (by go_simp)) (ints_two (by go_simp) (by go_simp)), (ints_two (by go_simp) (by go_simp)).strict (by simp), ?_⟩
  exact (((((((World.grownBy_alloc _ _ none).trans (World.grownBy_alloc _ _ none)).trans (World.grownBy_alloc _ _ none)).trans (World.grownBy_alloc _ _ none)).trans (World.grownBy_alloc _ _ none)).trans (World.grownBy_alloc _ _ none)).trans (World.grownBy_alloc _ _ none)).trans (World.grownBy_alloc _ _ none)
theorem results91 (tmps : Array Value) (w : World) (b : Nat) (v0 v1 : Value) (ht : tmps.getD 2 undef = .pointer (some ⟨b, 0, none⟩)) (h0 : w.cell? ⟨b, 0, none⟩ = some v0) (h1 : w.cell? ⟨b, 1, none⟩ = some v1) :
    (results Try.f91 tmps).run Try.prog w = .ok (.agg #[v0, v1]) w := by
  have ht' : tmps[2]?.getD undef = .pointer (some ⟨b, 0, none⟩) := by simpa using ht
  simp [results, ht', go_sem, h0, h1, Result.andThen]
set_option maxHeartbeats 1000000 in
theorem set9_calls (a : Option Addr) (n c : Nat) (w : World) : Calls Try.prog 91 #[.slice a n c] w fun e w' => e = .returned (.agg #[.int .i64 1, .slice a n c]) ∧ w.grownBy w' none := by
  go_enter Try.func91, Try.ntmps91
  go_wp2_with fail
  exact bodyPost_ret (results91 _ _ w.heap.size _ _ rfl (by go_simp) (by go_simp)) rfl ⟨rfl, World.grownBy_alloc _ _ none⟩
end Go.Proofs.Ytbddpjofhddilaa
