/- Models counted, plain. -/
import Derived.Test.YthkjjiijjedipaaDoorCD24
import Derived.Test.YthkjjiijjedipaaDoorCD25
import Derived.Test.YthkjjiijjedipaaDoorCD42
import Derived.Test.YthkjjiijjedipaaDoorCD44
import Derived.Test.YthkjjiijjedipaaDoorCD45
import Derived.Test.YthkjjiijjedipaaDoorCD47
namespace Go.Proofs.YthkjjiijjedipaaDoor
open Go.RowKit
def vB (b : Nat) : List Bool := [decide (b % 2 = 1), decide (b / 2 % 2 = 1), decide (b / 4 % 2 = 1), false, false, false, false, false]
def bitsGo (n : Nat) : Nat → List Bool
  | 0 => []
  | d + 1 => bitsGo n d ++ [decide (n / 2 ^ d % 2 = 1)]
theorem bits_len (n : Nat) : ∀ d, (bitsGo n d).length = d
  | 0 => rfl
  | d + 1 => by rw [bitsGo, List.length_append, bits_len n d]; rfl
def cntB (f : Nat → Bool) : Nat → Nat
  | 0 => 0
  | n + 1 => cntB f n + (if f n = true then 1 else 0)
theorem cnt_le16 (f : Nat → Bool) : ∀ n, cntB f n ≤ n
  | 0 => Nat.le_refl _
  | n + 1 => by have := cnt_le16 f n; unfold cntB; split <;> omega
theorem cnt_congr {f g : Nat → Bool} : ∀ n, (∀ i, i < n → f i = g i) → cntB f n = cntB g n
  | 0, _ => rfl
  | n + 1, h => by unfold cntB; rw [cnt_congr n (fun i hi => h i (by omega)), h n (by omega)]
theorem cnt_one : ∀ (T : List Bool), T.length ≤ 4 → cntB (fun n => decide (n / 2 ^ T.length = 0) && decide (bitsGo n T.length = T)) 16 = 1
  | [], _ => by decide +kernel
  | [a], _ => by cases a <;> decide +kernel
  | [a, b], _ => by cases a <;> cases b <;> decide +kernel
  | [a, b, c], _ => by cases a <;> cases b <;> cases c <;> decide +kernel
  | [a, b, c, d], _ => by cases a <;> cases b <;> cases c <;> cases d <;> decide +kernel
  | a :: b :: c :: d :: e :: t, h => by simp at h
theorem cnt_none : ∀ n, cntB (fun _ => false) n = 0
  | 0 => rfl
  | n + 1 => by unfold cntB; rw [cnt_none n]; rfl
/-- The models over one assignment of the inputs: one where the reference is true, else none. -/
theorem cnt_models {gs : List Gt} (hG : Good gs) (h8 : In8 gs) {r : Int} (hr : Ok gs r) {V : Nat} {L : List (List Int)} (e : tseP gs r 8 = (V, L)) (hV : V ≤ 12) (g : List Bool) (hg : g.length = 8) :
    cntB (fun n => decide (n / 2 ^ (V - 8) = 0) && satP (g ++ bitsGo n (V - 8)) L) 16 = if evalC gs g r = true then 1 else 0 := by
  have hx := ext_tse hG h8 (Nat.le_refl 8) hr g
  rw [e, given_self hg] at hx
  obtain ⟨h1, h2, _⟩ := hx
  have h8V : 8 ≤ V := by
    have := congrArg List.length h2
    rw [List.length_take, h1, hg] at this
    omega
  obtain ⟨T, hT⟩ : ∃ T, (extP gs r 8 g).drop 8 = T := ⟨_, rfl⟩
  have hTl : T.length = V - 8 := by rw [← hT, List.length_drop, h1]
  have hXT : extP gs r 8 g = g ++ T := by
    have := List.take_append_drop 8 (extP gs r 8 g)
    rw [h2, hT] at this
    exact this.symm
  have hs : ∀ n, satP (g ++ bitsGo n (V - 8)) L = (decide (bitsGo n (V - 8) = T) && evalC gs g r) := fun n => by
    have h3 := tse_ext hG h8 (Nat.le_refl 8) hr (g ++ bitsGo n (V - 8)) (by rw [List.length_append, hg, bits_len, e]; simp only; omega)
    rw [e, List.take_left' hg, hXT, List.append_cancel_left_eq] at h3
    cases h4 : satP (g ++ bitsGo n (V - 8)) L <;> cases h5 : evalC gs g r <;> by_cases h6 : bitsGo n (V - 8) = T <;> rw [h4, h5] at h3 <;> simp_all
  rw [cnt_congr 16 (fun n _ => by rw [hs n])]
  cases he : evalC gs g r with
  | true =>
    have h7 := cnt_one T (by omega)
    rw [hTl] at h7
    rw [cnt_congr 16 (g := fun n => decide (n / 2 ^ (V - 8) = 0) && decide (bitsGo n (V - 8) = T)) (fun n _ => by simp), h7]
    rfl
  | false =>
    rw [cnt_congr 16 (g := fun _ => false) (fun n _ => by simp), cnt_none]
    rfl
end Go.Proofs.YthkjjiijjedipaaDoor
