/- What the function ranks hands back: a function value over three boxes. -/
import Derived.Test.YtbddpjofhddilaaUG
import Derived.Test.YtbddpjofhddilaaUO
import Derived.Deep.RegionHeld3
import Derived.Laws.EntriesVeiled
namespace Go.Proofs.Ytbddpjofhddilaa
open Go.RowKit

/-- The ranks of all tuples that begin with the digits of pre and go on with atoms of the sorts, in order. -/
def digs (zs : List Nat) : Nat → List Nat → List Nat
  | pre, [] => [pre]
  | pre, s :: ss => (List.range (zs.getD s 0)).flatMap fun i => digs zs (pre * sum zs + (sum (zs.take s) + i)) ss

set_option maxHeartbeats 1000000 in
theorem ranks_calls (v0 v1 v2 : Value) (x : Int) (a sa : Option Addr) (n c k sc : Nat) (st : Int) (w : World) (h0 : v0 = .agg #[.slice a n c, .int .i64 st]) (h1 : v1 = .int .i64 x) (h2 : v2 = .slice sa k sc) :
    Calls Try.prog 113 #[v0, v1, v2] w fun e w' => e = .returned (.func (.func 130) #[] #[.pointer (some ⟨w.heap.size + 2, 0, none⟩), .pointer (some ⟨w.heap.size + 1, 0, none⟩), .pointer (some ⟨w.heap.size, 0, none⟩)]) ∧
      w' = ((w.alloc (.cells #[.slice a n c, .int .i64 st] 30)).alloc (.cells #[.int .i64 x] 3)).alloc (.cells #[.slice sa k sc] 28) := by
  subst h0 h1 h2
  go_enter Try.func113, Try.ntmps113
  go_wp2
  go_ret
  exact ⟨rfl, rfl⟩
theorem ranks_gets (x : Int) (a sa : Option Addr) (n c k sc : Nat) (st : Int) (w : World) :
    Calls Try.prog 113 #[.agg #[.slice a n c, .int .i64 st], .int .i64 x, .slice sa k sc] w fun e w' => ∃ b, e = .returned (.func (.func 130) #[] #[.pointer (some ⟨b + 2, 0, none⟩), .pointer (some ⟨b + 1, 0, none⟩), .pointer (some ⟨b, 0, none⟩)]) ∧
      w.grownBy w' none ∧ w.heap.size ≤ b ∧ b + 2 < w'.heap.size ∧ w'.cell? ⟨b, 0, none⟩ = some (.slice a n c) ∧ w'.cell? ⟨b, 1, none⟩ = some (.int .i64 st) ∧ w'.cell? ⟨b + 1, 0, none⟩ = some (.int .i64 x) ∧ w'.cell? ⟨b + 2, 0, none⟩ = some (.slice sa k sc) := by
  refine (ranks_calls _ _ _ x a sa n c k sc st w rfl rfl rfl).mono ?_
  rintro e w' ⟨rfl, rfl⟩
  exact ⟨_, rfl, ((World.grownBy_alloc _ _ none).trans (World.grownBy_alloc _ _ none)).trans (World.grownBy_alloc _ _ none), Nat.le_refl _, by simp, by go_simp, by go_simp, by go_simp, by go_simp⟩

theorem nums_two {X Y : World} {u v : Nat} (g : (X.alloc (.cells #[.int .i64 (u : Int), .int .i64 (v : Int)] 3)).grownBy Y none) : Nums Y (some ⟨X.heap.size, 0, none⟩) 2 [u, v] := by
  refine Nums.grown ⟨Nat.le_refl _, .inr ⟨_, 0, rfl, by simp, fun j z hj => ?_⟩⟩ g
  match j, hj with
  | 0, hj => simp at hj; subst hj; go_simp
  | 1, hj => simp at hj; subst hj; go_simp

theorem nums_two' {X Y : World} {u v : Nat} (g : (X.alloc (.cells #[.int .i64 (u : Int), .int .i64 (v : Int)] 3)).drew.grownBy Y none) : Nums Y (some ⟨X.heap.size, 0, none⟩) 2 [u, v] :=
  nums_two (World.grownBy.trans (b := (X.alloc (.cells #[.int .i64 (u : Int), .int .i64 (v : Int)] 3)).drew) ⟨rfl, rfl, rfl, Nat.le_refl _, fun _ _ _ => rfl⟩ g)

/-- The row behind a row's first element. -/
theorem nums_tail {b o k sc : Nat} (hk : k + 1 ≤ sc) : ∃ sa : Option Addr, sa.map (·.block) = some b ∧
    (∀ w, (Instr.slice 28 (.slice (some ⟨b, o, none⟩) (k + 1) sc) (some (.int .i64 1)) none none).run Try.prog w = .ok (.slice sa k (sc - 1)) w) ∧
    (∀ (w : World) (z : Nat) (zs : List Nat), zs.length = k → Nums w (some ⟨b, o, none⟩) sc (z :: zs) → Nums w sa (sc - 1) zs) := by
  by_cases h : sc = 1
  · subst h
    obtain rfl : k = 0 := by omega
    refine ⟨some ⟨b, o, none⟩, rfl, fun w => by go_simp, fun w z zs hz hn => ?_⟩
    obtain rfl := List.eq_nil_of_length_eq_zero hz
    obtain ⟨_, ⟨h, _⟩ | ⟨b', o', ha, hb, _⟩⟩ := hn
    · cases h
    · exact ⟨by simp, .inr ⟨b', o', ha, hb, fun j z hj => by simp at hj⟩⟩
  · refine ⟨some ⟨b, o + 1, none⟩, rfl, fun w => by
      go_simp
      intro hq
      omega, fun w z zs hz hn => ?_⟩
    obtain ⟨hc, ⟨h, _⟩ | ⟨b', o', ha, hb, hcell⟩⟩ := hn
    · cases h
    · injection ha with ha
      injection ha with h1 h2
      subst h1; subst h2
      exact ⟨by simp at hc; omega, .inr ⟨b, o + 1, rfl, hb, fun j z hj => by rw [show o + 1 + j = o + (j + 1) by omega]; exact hcell (j + 1) z (by simpa using hj)⟩⟩
end Go.Proofs.Ytbddpjofhddilaa
