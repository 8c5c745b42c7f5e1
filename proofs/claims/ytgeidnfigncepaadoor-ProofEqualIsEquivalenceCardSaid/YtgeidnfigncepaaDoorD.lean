/- What lies in memory: numbers, steps; few steps. -/
import Derived.Test.YtgeidnfigncepaaDoorC
import Derived.Test.YtgeidnfigncepaaDoorProg
import Derived.WalkKit
import Derived.WalkSpells
import Derived.WalkLawsBesides
import Derived.Deep.QuietTactic
import Derived.Deep.LoopGhost
import Derived.Maps.AppendAt
import Derived.BigQuiet
import Derived.Lib.Hide
import Derived.IntWalk
namespace Go.Proofs.YtgeidnfigncepaaDoor
open Go.RowKit

/-- A row of integers that is read. -/
def Ints (w : World) (a : Option Addr) (c : Nat) (zs : List Int) : Prop :=
  zs.length ≤ c ∧ ∀ (j : Nat) (z : Int), zs[j]? = some z → ∃ b o, a = some ⟨b, o, none⟩ ∧ w.cell? ⟨b, o + j, none⟩ = some (.int .i64 z)
theorem Ints.grown {w w' : World} {a : Option Addr} {c : Nat} {zs : List Int} (h : Ints w a c zs) (hg : w.grownBy w' none) : Ints w' a c zs :=
  ⟨h.1, fun j z hj => by obtain ⟨b, o, ha, hc⟩ := h.2 j z hj; exact ⟨b, o, ha, hg.cell hc (by simp)⟩⟩
theorem ints_nil (w : World) : Ints w none 0 [] := ⟨Nat.le_refl _, fun j z hj => by simp at hj⟩
/-- A step in memory. -/
def StepAt (w : World) (b o : Nat) (x : St) : Prop :=
  w.cell? ⟨b, o, none⟩ = some (.int .i64 x.1) ∧ (∃ a c, w.cell? ⟨b, o + 1, none⟩ = some (.slice a x.2.1.length c) ∧ Ints w a c x.2.1) ∧ w.cell? ⟨b, o + 2, none⟩ = some (.int .i64 x.2.2)
theorem StepAt.grown {w w' : World} {b o : Nat} {x : St} (h : StepAt w b o x) (hg : w.grownBy w' none) : StepAt w' b o x := by
  obtain ⟨h0, ⟨a, c, h1, hi⟩, h2⟩ := h
  exact ⟨hg.cell h0 (by simp), ⟨a, c, hg.cell h1 (by simp), hi.grown hg⟩, hg.cell h2 (by simp)⟩
/-- A row of steps that is read. -/
def Steps (w : World) (a : Option Addr) (c : Nat) (l : List St) : Prop :=
  l.length ≤ c ∧ ∀ (j : Nat) (x : St), l[j]? = some x → ∃ b o, a = some ⟨b, o, none⟩ ∧ StepAt w b (o + j * 3) x
theorem Steps.grown {w w' : World} {a : Option Addr} {c : Nat} {l : List St} (h : Steps w a c l) (hg : w.grownBy w' none) : Steps w' a c l :=
  ⟨h.1, fun j x hj => by obtain ⟨b, o, ha, hc⟩ := h.2 j x hj; exact ⟨b, o, ha, hc.grown hg⟩⟩
theorem grown_drewN (w : World) (n : Nat) (r : Option Nat) : w.grownBy (w.drewN n) r := ⟨rfl, rfl, rfl, Nat.le_refl _, fun _ _ _ => rfl⟩
theorem grown_refl (w : World) (r : Option Nat) : w.grownBy w r := ⟨rfl, rfl, rfl, Nat.le_refl _, fun _ _ _ => rfl⟩
theorem grown_set (w : World) (b o : Nat) (v : Value) : w.grownBy (w.setCell ⟨b, o, none⟩ v) (some b) :=
  ⟨rfl, rfl, rfl, by simp [World.setCell], fun k _ hk => Below.heap_setCell _ _ _ _ (fun e => hk (by simp [e]))⟩
theorem grown_own {w w1 : World} {r : Option Nat} (h : w.grownBy w1 none) {w2 : World} (h2 : w1.grownBy w2 r) (hr : ∀ k, r = some k → w.heap.size ≤ k) : w.grownBy w2 none :=
  ⟨h2.os.trans h.os, h2.tape.trans h.tape, h2.output.trans h.output, Nat.le_trans h.size h2.size, fun k hk _ => by
    rw [h2.block k (Nat.lt_of_lt_of_le hk h.size) (fun e => by have := hr k e.symm; omega)]
    exact h.block k hk (by simp)⟩

def fewS (x : St) : Bool := decide (x.2.1.length ≤ 60)
def fewB (m : Nat) (l : List St) : Bool := decide (l.length ≤ m) && l.all fewS

set_option maxHeartbeats 1000000 in
theorem few_calls (l : List St) (a : Option Addr) (c m : Nat) (w : World) (h : Steps w a c l) (hl : (l.length : Int) ≤ 9223372036854775807) :
    Calls Tryd.prog 11 #[.slice a l.length c, .int .i64 (m : Int)] w fun e w' => e = .returned (.bool (fewB m l)) ∧ w' = w := by
  obtain ⟨n, hn⟩ : ∃ n, l.length = n := ⟨_, rfl⟩
  rw [hn] at hl ⊢
  have HN := Lib.hid (And.intro hn h); clear hn h
  by_cases hm : m < n
  · have hmB : decide (m < n) = true := by simpa using hm
    have HR : Hid (fewB m l = false) := Lib.hid (by unfold fewB; rw [HN.out.1]; simp; omega)
    go_enter Tryd.func11, Tryd.ntmps11
    go_wp2
    go_ret
    exact ⟨by rw [HR.out]; rfl, rfl⟩
  · have hmB : decide (m < n) = false := by simpa using hm
    go_enter Tryd.func11, Tryd.ntmps11
    go_wp2
    go_loopg [5] n (fun g s5 wr => ∃ i : Nat, s5 = .int .i64 (i : Int) ∧ g = n - i ∧ i ≤ n ∧ (∀ x ∈ l.take i, fewS x = true) ∧ wr = w)
    case atStart => exact ⟨0, rfl, rfl, Nat.zero_le _, fun x hx => (by simp at hx), rfl⟩
    case round =>
      obtain ⟨i, rfl, hgi, hi, hok, rfl⟩ := hrel
      have HGI := Lib.hid (And.intro hgi hok); clear hgi hok
      by_cases hin : i < n
      · have hinB : decide (i < n) = true := by simpa using hin
        have hinI : (i : Int) < (n : Int) := by omega
        obtain ⟨x, hx⟩ : ∃ x, l[i]? = some x := ⟨_, List.getElem?_eq_getElem (by rw [HN.out.1]; exact hin)⟩
        obtain ⟨b, o, rfl, c0, ⟨la, lc, c1, _⟩, c2⟩ := HN.out.2.2 i x hx
        have HX := Lib.hid hx; clear hx c0 c2
        obtain ⟨k, hk⟩ : ∃ k, x.2.1.length = k := ⟨_, rfl⟩
        rw [hk] at c1
        by_cases h60 : 60 < k
        · have hB : decide (60 < k) = true := by simpa using h60
          have hB' : decide (60 < (k : Int)) = true := by simp; omega
          have HR : Hid (fewB m l = false) := Lib.hid (by
            unfold fewB
            rw [Bool.and_eq_false_iff, List.all_eq_false]
            exact .inr ⟨x, List.mem_of_getElem? HX.out, by simp [fewS, hk]; omega⟩)
          clear hk
          go_wp2
          go_ret
          exact ⟨by rw [HR.out]; rfl, rfl⟩
        · have hB : decide (60 < k) = false := by simpa using h60
          have hB' : decide (60 < (k : Int)) = false := by simp; omega
          have HS : Hid (fewS x = true) := Lib.hid (by simp [fewS, hk]; omega)
          clear hk
          go_wp2
          go_roundg (n - (i + 1))
          case measure => rw [HGI.out.1]; omega
          case rel => exact ⟨i + 1, rfl, rfl, by omega, fun y hy => by
            rw [List.take_add_one, HX.out, Option.toList_some, List.mem_append] at hy
            rcases hy with hy | hy
            · exact HGI.out.2 y hy
            · rw [List.mem_singleton] at hy; subst hy; exact HS.out, rfl⟩
      · have hie : i = n := by omega
        subst hie
        have hinB : decide (i < i) = false := by simp
        have HR : Hid (fewB m l = true) := Lib.hid (by
          unfold fewB
          rw [Bool.and_eq_true, List.all_eq_true, HN.out.1]
          refine ⟨by simp; omega, ?_⟩
          have := HGI.out.2
          rw [List.take_of_length_le (by rw [HN.out.1]; exact Nat.le_refl _)] at this
          exact this)
        go_wp2
        go_ret
        exact ⟨by rw [HR.out]; rfl, rfl⟩
end Go.Proofs.YtgeidnfigncepaaDoor
