/- Texts of the proof: M2 K0. -/
import Derived.Test.YthkjjiijjedipaaDoorCD05
import Derived.Test.YthkjjiijjedipaaDoorCD00
namespace Go.Proofs.YthkjjiijjedipaaDoor
open Go.RowKit

def litOk (v x : Int) : Bool := decide (x ≠ 0) && decide (x ≤ v) && decide (-v ≤ x)
def litsOk (v : Int) (l : List (List Int)) : Bool := l.all fun z => z.all (litOk v)
def validK (v : Int) (l : List (List Int)) : Bool := decide (0 ≤ v) && decide (v ≤ 20000) && decide (l.length ≤ 60000) && litsOk v l
theorem litOk_zero (v : Int) : litOk v 0 = false := by simp [litOk]
theorem litOk_gt {v x : Int} (h : v < x) : litOk v x = false := by simp [litOk]; omega
theorem litOk_lt {v x : Int} (h : x < -v) : litOk v x = false := by simp [litOk]; omega
theorem litOk_yes {v x : Int} (h0 : ¬ x = 0) (h1 : ¬ v < x) (h2 : ¬ x < -v) : litOk v x = true := by simp [litOk]; omega
theorem all_step {α : Type} {p : α → Bool} {l : List α} {i : Nat} {x : α} (h : ∀ y ∈ l.take i, p y = true) (hx : l[i]? = some x) (hp : p x = true) : ∀ y ∈ l.take (i + 1), p y = true := fun y hy => by
  rw [List.take_add_one, hx, Option.toList_some, List.mem_append] at hy
  rcases hy with hy | hy
  · exact h y hy
  · rw [List.mem_singleton] at hy; subst hy; exact hp
theorem all_end {α : Type} {p : α → Bool} {l : List α} {n : Nat} (hn : l.length = n) (h : ∀ y ∈ l.take n, p y = true) : l.all p = true := by
  rw [List.take_of_length_le (by omega)] at h
  exact List.all_eq_true.2 h
theorem all_not {α : Type} {p : α → Bool} {l : List α} {i : Nat} {x : α} (hx : l[i]? = some x) (hp : p x = false) : l.all p = false :=
  List.all_eq_false.2 ⟨x, List.mem_of_getElem? hx, by rw [hp]; simp⟩

set_option maxRecDepth 100000 in
set_option maxHeartbeats 2000000 in
theorem valid14_calls (v : Int) (l : List (List Int)) (a : Option Addr) (c : Nat) (w : World) (h : ClsW w a c l) (hl : l.length ≤ 60000) (hl2 : ∀ z ∈ l, z.length ≤ 100000) (hv : 0 ≤ v ∧ v ≤ 20000) :
    Calls Tryd.prog 14 #[cnfV v a l.length c] w fun e w' => e = .returned (.bool (litsOk v l)) ∧ w.grownBy w' none := by
  obtain ⟨n, hn⟩ : ∃ n, l.length = n := ⟨_, rfl⟩
  have hg1 := World.grownBy_alloc w (.cells #[.int .i64 v, .slice a n c] 35) none
  have e1 := one_cells w (.int .i64 v) (.slice a n c) 35
  obtain ⟨W1, hW1⟩ : ∃ W, w.alloc (.cells #[.int .i64 v, .slice a n c] 35) = W := ⟨_, rfl⟩
  rw [hW1] at hg1 e1
  have q0 := e1.2.1
  have q1 := e1.2.2.1
  have HH := Lib.hid (h.grown hg1)
  have HG := Lib.hid hg1
  have HN := Lib.hid (And.intro hn hl2)
  rw [hn] at hl ⊢
  clear h hg1 e1 hl2 hn
  obtain ⟨hv1, hv2⟩ := hv
  have d1 : decide (v < 0) = false := decide_eq_false (by omega)
  have d2 : decide (20000 < v) = false := decide_eq_false (by omega)
  have d3 : decide (60000 < n) = false := decide_eq_false (by omega)
  have d4 : decide (60000 < (n : Int)) = false := decide_eq_false (by omega)
  have d5 : IntKind.i64.wrap (-v) = -v := IntWalk.i64_in _ (by omega)
  go_enter Tryd.func14, Tryd.ntmps14
  go_wp2_with fail
  go_loopg [24] n (fun g s wr => ∃ i : Nat, s = .int .i64 (i : Int) ∧ g = n - i ∧ i ≤ n ∧ (∀ z ∈ l.take i, z.all (litOk v) = true) ∧ W1 = wr)
  case atStart => exact ⟨0, rfl, rfl, Nat.zero_le _, fun z hz => (by simp at hz), rfl⟩
  case round =>
    obtain ⟨i, rfl, hgi, hi, hok, rfl⟩ := hrel
    have HGI := Lib.hid (And.intro hgi hok); clear hgi hok
    by_cases hin : i < n
    · have hinB : decide (i < n) = true := by simpa using hin
      have hinI : (i : Int) < (n : Int) := by omega
      obtain ⟨z, hz⟩ : ∃ z, l[i]? = some z := ⟨_, List.getElem?_eq_getElem (by rw [HN.out.1]; exact hin)⟩
      obtain ⟨b, o, a', c', rfl, c0, c1⟩ := HH.out.at hz
      have hp2 := HN.out.2 z (List.mem_of_getElem? hz)
      have HX := Lib.hid hz; clear hz
      obtain ⟨p, hp⟩ : ∃ p, z.length = p := ⟨_, rfl⟩
      rw [hp] at c0 hp2
      have HP := Lib.hid (And.intro hp c1); clear hp c1
      go_wp2_with fail
      go_loopg [30] p (fun g s wr => ∃ j : Nat, s = .int .i64 (j : Int) ∧ g = p - j ∧ j ≤ p ∧ (∀ x ∈ z.take j, litOk v x = true) ∧ W1 = wr)
      case atStart => exact ⟨0, rfl, rfl, Nat.zero_le _, fun x hx => (by simp at hx), rfl⟩
      case round =>
        obtain ⟨j, rfl, hgj, hj, hokj, rfl⟩ := hrel
        have HGJ := Lib.hid (And.intro hgj hokj); clear hgj hokj
        by_cases hjp : j < p
        · have hjB : decide (j < p) = true := by simpa using hjp
          have hjI : (j : Int) < (p : Int) := by omega
          obtain ⟨x, hx⟩ : ∃ x, z[j]? = some x := ⟨_, List.getElem?_eq_getElem (by rw [HP.out.1]; exact hjp)⟩
          obtain ⟨b2, o2, rfl, e0⟩ := HP.out.2.at hx
          have HU := Lib.hid hx; clear hx
          by_cases h0 : x = 0
          · have k1 : (x == 0) = true := by simpa using h0
            have HR : Hid (litsOk v l = false) := Lib.hid (all_not HX.out (all_not HU.out (by rw [h0]; exact litOk_zero v)))
            subst h0
            go_wp2_with fail
            go_ret
            exact ⟨by rw [HR.out]; rfl, HG.out⟩
          · have k1 : (x == 0) = false := by simpa using h0
            by_cases h1 : v < x
            · have k2 : decide (v < x) = true := decide_eq_true h1
              have HR : Hid (litsOk v l = false) := Lib.hid (all_not HX.out (all_not HU.out (litOk_gt h1)))
              clear h0
              go_wp2_with fail
              go_ret
              exact ⟨by rw [HR.out]; rfl, HG.out⟩
            · have k2 : decide (v < x) = false := decide_eq_false h1
              by_cases h2 : x < -v
              · have k3 : decide (x < -v) = true := decide_eq_true h2
                have HR : Hid (litsOk v l = false) := Lib.hid (all_not HX.out (all_not HU.out (litOk_lt h2)))
                clear h0
                go_wp2_with fail
                go_ret
                exact ⟨by rw [HR.out]; rfl, HG.out⟩
              · have k3 : decide (x < -v) = false := decide_eq_false h2
                have HY := Lib.hid (litOk_yes h0 h1 h2)
                clear h0
                go_wp2_with fail
                go_roundg (p - (j + 1))
                case measure => rw [HGJ.out.1]; omega
                case rel => exact ⟨j + 1, rfl, rfl, by omega, all_step HGJ.out.2 HU.out HY.out, rfl⟩
        · have hje : j = p := by omega
          subst hje
          have hjB : decide (j < j) = false := by simp
          have HE := Lib.hid (all_end HP.out.1 HGJ.out.2)
          go_wp2_with fail
          go_roundg (n - (i + 1))
          case measure => rw [HGI.out.1]; omega
          case rel => exact ⟨i + 1, rfl, rfl, by omega, all_step HGI.out.2 HX.out HE.out, rfl⟩
    · have hie : i = n := by omega
      subst hie
      have hinB : decide (i < i) = false := by simp
      have HR : Hid (litsOk v l = true) := Lib.hid (all_end HN.out.1 HGI.out.2)
      go_wp2_with fail
      go_ret
      exact ⟨by rw [HR.out]; rfl, HG.out⟩
end Go.Proofs.YthkjjiijjedipaaDoor

namespace Go.Proofs.YthkjjiijjedipaaDoor
def In8 (gs : List Gt) : Prop := ∀ g ∈ gs, g.1 = 1 → g.2.1 ≤ 8
theorem in8_add {gs : List Gt} (h : In8 gs) {x : Gt} (hx : x.1 = 1 → x.2.1 ≤ 8) : In8 (addG gs x).1 := by
  unfold addG
  split
  · exact h
  · split
    · exact h
    · intro g hg
      rcases List.mem_append.1 hg with hg | hg
      · exact h g hg
      · rw [List.mem_singleton.1 hg]; exact hx
theorem in8_and {gs : List Gt} (h : In8 gs) (a b : Int) : In8 (andC gs a b).1 := by
  unfold andC
  split
  · exact h
  · split
    · exact h
    · split
      · exact h
      · split
        · exact h
        · exact in8_add h (fun e => by simp at e)
theorem val_lit {gs : List Gt} {values : List Bool} {a : Int} (h : Ok gs a) : valC gs values a = (if a % 2 = 0 then valC gs values (2 * (a / 2)) else !valC gs values (2 * (a / 2))) := by
  by_cases h2 : a % 2 = 0
  · rw [if_pos h2, show 2 * (a / 2) = a by omega]
  · rw [if_neg h2]
    have h3 : notR (2 * (a / 2)) = a := by
      have := h.1
      rw [notR_even (by omega) (by omega)]; omega
    rw [← val_not (gs := gs) (r := 2 * (a / 2)) (by have := h.1; have := h.2; exact ⟨by omega, by omega⟩), h3]
end Go.Proofs.YthkjjiijjedipaaDoor
