/- Texts of the proof: H3 P1. -/
import Derived.Test.YthkjjiijjedipaaDoorCD16
namespace Go.Proofs.YthkjjiijjedipaaDoor
open Go.RowKit

/-- A store into a box of a circuit leaves the rows of gates. -/
theorem GateAt.set {w : World} {b : Nat} {k o : Nat} {g : Gt} (h : GateAt w k o g) {a' : Option Addr} {n' c' : Nat} (hb : w.cell? ⟨b, 0, none⟩ = some (.slice a' n' c')) (v : Value) : GateAt (w.setCell ⟨b, 0, none⟩ v) k o g := by
  have ne : ∀ {A : Addr} {x : Int}, w.cell? A = some (.int .i64 x) → (⟨b, 0, none⟩ : Addr) ≠ A := fun {A x} hA e => by rw [← e, hb] at hA; cases hA
  exact ⟨by rw [World.cell?_setCell_other _ _ _ _ (ne h.1)]; exact h.1, by rw [World.cell?_setCell_other _ _ _ _ (ne h.2.1)]; exact h.2.1, by rw [World.cell?_setCell_other _ _ _ _ (ne h.2.2)]; exact h.2.2⟩
theorem GatesW.set {w : World} {b : Nat} {a : Option Addr} {c : Nat} {g : List Gt} (h : GatesW w a c g) {a' : Option Addr} {n' c' : Nat} (hb : w.cell? ⟨b, 0, none⟩ = some (.slice a' n' c')) (v : Value) : GatesW (w.setCell ⟨b, 0, none⟩ v) a c g := by
  obtain ⟨hc, h | ⟨k, o, ha, ht, hz⟩⟩ := h
  · exact ⟨hc, .inl h⟩
  · exact ⟨hc, .inr ⟨k, o, ha, ht.set _ _, fun j g hj => (hz j g hj).set hb v⟩⟩
/-- A circuit in a box. -/
def CB (w : World) (b : Nat) (a : Option Addr) (c : Nat) (g : List Gt) : Prop := w.cell? ⟨b, 0, none⟩ = some (.slice a g.length c) ∧ w.frozen? ⟨b, 0, none⟩ = false ∧ GatesW w a c g
theorem CB.grown {w w' : World} {b : Nat} {a : Option Addr} {c : Nat} {g : List Gt} (h : CB w b a c g) (hg : w.grownBy w' none) : CB w' b a c g :=
  ⟨hg.cell h.1 (by simp), (grown_frozen hg (lies_lt h.1) 0).trans h.2.1, h.2.2.grown hg⟩
theorem CB.new {w : World} {a : Option Addr} {c : Nat} {g : List Gt} (h : GatesW w a c g) : CB (w.alloc (.cells #[.slice a g.length c] 27)) w.heap.size a c g :=
  ⟨(one_cell w _ 27).2.1, (one_cell w _ 27).2.2, h.grown (World.grownBy_alloc w _ none)⟩
theorem CB.put {w : World} {b : Nat} {a a' : Option Addr} {c n' c' : Nat} {g : List Gt} (h : GatesW w a c g) (h0 : w.cell? ⟨b, 0, none⟩ = some (.slice a' n' c')) (hf : w.frozen? ⟨b, 0, none⟩ = false) : CB (w.setCell ⟨b, 0, none⟩ (.slice a g.length c)) b a c g :=
  ⟨World.cell?_setCell_same _ _ _ h0, by rw [World.frozen?_setCell]; exact hf, h.set h0 _⟩
/-- A fresh box of a circuit. -/
def BoxZ (w : World) (b : Nat) : Prop := w.cell? ⟨b, 0, none⟩ = some (.slice none 0 0) ∧ w.frozen? ⟨b, 0, none⟩ = false
theorem BoxZ.new (w : World) : BoxZ (w.alloc (.cells #[.slice none 0 0] 27)) w.heap.size := (one_cell w _ 27).2
theorem BoxZ.grown {w w' : World} {b : Nat} (h : BoxZ w b) (hg : w.grownBy w' none) : BoxZ w' b := ⟨hg.cell h.1 (by simp), (grown_frozen hg (lies_lt h.1) 0).trans h.2⟩
/-- What a call that answers with a circuit and a reference leaves. -/
def Ans (w : World) (g : List Gt) (r : Int) (x : Ending) (w' : World) : Prop := ∃ a c, x = .returned (.tuple #[.agg #[.slice a g.length c], .int .i64 r]) ∧ GatesW w' a c g ∧ w.grownBy w' none
section
variable {gs g : List Gt} {r : Int} {a : Option Addr} {c : Nat} {w : World}
end
theorem good_bounds {gs : List Gt} (h : Good gs) (hl : gs.length ≤ 20000) : ∀ g ∈ gs, g.2.1 ≤ 9223372036854775807 ∧ g.2.2 ≤ 9223372036854775807 := fun g hg => by
  obtain ⟨i, hi⟩ := List.mem_iff_getElem?.1 hg
  have hlt := (List.getElem?_eq_some_iff.1 hi).1
  cases i with
  | zero => rw [h.zero] at hi; cases hi; simp
  | succ i => rcases h.form _ _ (by omega) hi with h1 | h1 <;> omega
theorem wf_i64 {x : Int} (h0 : 0 ≤ x) (h1 : x ≤ 9223372036854775807) : (Lit.int .i64 x).wf = true := WalkArith.wf_i64 (by omega)
end Go.Proofs.YthkjjiijjedipaaDoor

namespace Go.Proofs.YthkjjiijjedipaaDoor
open Go.RowKit

def pick0 (refs : List Int) (n : Nat) : Int := if n / 2 % (refs.length + 1) = 0 then 0 else (refs[n / 2 % (refs.length + 1) - 1]?).getD 0
def pickL (refs : List Int) (n : Nat) : Int := if n % 2 = 1 then notR (pick0 refs n) else pick0 refs n

set_option maxRecDepth 100000 in
set_option maxHeartbeats 4000000 in
theorem pick_calls (refs : List Int) (n : Nat) (a : Option Addr) (c : Nat) (w : World) (h : IntsW w a c refs) (hl : refs.length ≤ 1000) (hn : n < 256) (hb : ∀ r ∈ refs, r ≤ 9223372036854775807) :
    Calls Tryd.prog 10 #[.slice a refs.length c, .int .u8 (n : Int)] w fun e w' => e = .returned (.int .i64 (pickL refs n)) ∧ w' = w := by
  obtain ⟨m, hm⟩ : ∃ m, refs.length = m := ⟨_, rfl⟩
  obtain ⟨q, hq⟩ : ∃ q, n / 2 = q := ⟨_, rfl⟩
  obtain ⟨k, hk⟩ : ∃ k, q % (m + 1) = k := ⟨_, rfl⟩
  have hkm : k ≤ m := by rw [← hk]; have := Nat.mod_lt q (show 0 < m + 1 by omega); omega
  have HP0 := Lib.hid (show pick0 refs n = if k = 0 then 0 else (refs[k - 1]?).getD 0 by unfold pick0; rw [hm, hq, hk])
  have HPL := Lib.hid (show pickL refs n = if n % 2 = 1 then notR (pick0 refs n) else pick0 refs n from rfl)
  have hw0 : IntKind.i64.wrap (n : Int) = (n : Int) := IntWalk.i64_in _ (by omega)
  have hw1 : IntKind.i64.wrap (q : Int) = (q : Int) := IntWalk.i64_in _ (by omega)
  have hw2 : IntKind.i64.wrap ((m : Int) + 1) = ((m + 1 : Nat) : Int) := by rw [IntWalk.i64_in _ (by omega)]; omega
  have hw3 : IntKind.i64.wrap (k : Int) = (k : Int) := IntWalk.i64_in _ (by omega)
  have hm0 : ¬ (((m + 1 : Nat) : Int) = 0) := by omega
  have hm1 : ¬ ((m + 1 : Nat) = 0) := by omega
  have hd : (n : Int).tdiv 2 = (q : Int) := by rw [Int.tdiv_eq_ediv_of_nonneg (by omega), ← hq]; omega
  have hr : (q : Int).tmod ((m + 1 : Nat) : Int) = (k : Int) := by rw [Int.tmod_eq_emod_of_nonneg (by omega), ← hk]; rfl
  have hr' : (q : Int).tmod ((m : Int) + 1) = (k : Int) := hr
  have HM := Lib.hid hm
  have HH := Lib.hid h
  have HB := Lib.hid hb
  rw [hm] at hl ⊢
  clear h hb hm
  have h2 : n % 2 = 0 ∨ n % 2 = 1 := by omega
  have ht : (n : Int).tmod 2 = ((n % 2 : Nat) : Int) := by rw [Int.tmod_eq_emod_of_nonneg (by omega)]; rfl
  have hz : ∀ z, pick0 refs n = z → z ≤ 9223372036854775807 := fun z hz => by
    rw [← hz, HP0.out]
    split
    · omega
    · cases hg : refs[k - 1]? with
      | none => simp
      | some r => exact HB.out r (List.mem_of_getElem? hg)
  by_cases hk0 : 0 < k
  · have f1 : decide (0 < k) = true := decide_eq_true hk0
    obtain ⟨r, hg⟩ : ∃ r, refs[k - 1]? = some r := ⟨_, List.getElem?_eq_getElem (by rw [HM.out]; omega)⟩
    have hp0 : pick0 refs n = r := by rw [HP0.out, if_neg (by omega), hg]; rfl
    have hrb := hz r hp0
    obtain ⟨b, o, rfl, x0⟩ := HH.out.at hg
    have hw5 : IntKind.i64.wrap ((k : Int) - 1) = ((k - 1 : Nat) : Int) := by rw [IntWalk.i64_in _ (by omega)]; omega
    have hi0 : (0 : Int) ≤ ((k - 1 : Nat) : Int) := by omega
    have hi1 : ((k - 1 : Nat) : Int) < (m : Int) := by omega
    obtain ⟨j, hj⟩ : ∃ j, k - 1 = j := ⟨_, rfl⟩
    rw [hj] at hw5 hi0 hi1 x0
    clear hj hg hz
    by_cases hn2 : n % 2 = 1
    · have f2 : ((n : Int) % 2 == 1) = true := beqT (by omega)
      have HE := Lib.hid (show pickL refs n = notR r by rw [HPL.out, if_pos hn2, hp0])
      clear hn2 hp0 h2 ht
      go_enter Tryd.func10, Tryd.ntmps10
      go_wp2_with (go_at_call 18; refine (not26_calls _ _ hrb).mono ?_; rintro e w9 ⟨rfl, hw9⟩; rw [hw9]; clear hw9 w9)
      go_ret
      exact ⟨by rw [HE.out]; rfl, rfl⟩
    · have f2 : ((n : Int) % 2 == 1) = false := beqF (by omega)
      have HE := Lib.hid (show pickL refs n = r by rw [HPL.out, if_neg hn2, hp0])
      clear hn2 hp0 h2 ht
      go_enter Tryd.func10, Tryd.ntmps10
      go_wp2_with fail
      go_ret
      exact ⟨by rw [HE.out]; rfl, rfl⟩
  · have f1 : decide (0 < k) = false := decide_eq_false hk0
    obtain ⟨r, hrr⟩ : ∃ r : Int, r = 0 := ⟨_, rfl⟩
    have hp0 : pick0 refs n = r := by rw [HP0.out, if_pos (by omega), hrr]
    have hrb := hz r hp0
    clear hz
    subst hrr
    by_cases hn2 : n % 2 = 1
    · have f2 : ((n : Int) % 2 == 1) = true := beqT (by omega)
      have HE := Lib.hid (show pickL refs n = notR 0 by rw [HPL.out, if_pos hn2, hp0])
      clear hn2 hp0 h2 ht
      go_enter Tryd.func10, Tryd.ntmps10
      go_wp2_with (go_at_call 18; refine (not26_calls _ _ hrb).mono ?_; rintro e w9 ⟨rfl, hw9⟩; rw [hw9]; clear hw9 w9)
      go_ret
      exact ⟨by rw [HE.out]; rfl, rfl⟩
    · have f2 : ((n : Int) % 2 == 1) = false := beqF (by omega)
      have HE := Lib.hid (show pickL refs n = 0 by rw [HPL.out, if_neg hn2, hp0])
      clear hn2 hp0 h2 ht
      go_enter Tryd.func10, Tryd.ntmps10
      go_wp2_with fail
      go_ret
      exact ⟨by rw [HE.out]; rfl, rfl⟩
end Go.Proofs.YthkjjiijjedipaaDoor
