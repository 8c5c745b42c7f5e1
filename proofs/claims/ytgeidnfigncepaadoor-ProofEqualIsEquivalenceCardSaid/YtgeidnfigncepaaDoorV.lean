/- The examples: every law begins with them. -/
import Derived.Test.YtgeidnfigncepaaDoorU
import Derived.Deep.RegionHeld3
namespace Go.Proofs.YtgeidnfigncepaaDoor
open Go.RowKit

/-- The examples answer true, where the library's table stands. -/
def HeadSays : Prop := ∀ w, Tab w → Calls Tryd.prog 10 #[] w fun e w' => e = .returned (.bool true) ∧ w.grownBy w' none

theorem steps_take {w : World} {a : Option Addr} {c : Nat} {l : List St} (h : Steps w a c l) (k : Nat) : Steps w a c (l.take k) :=
  ⟨by rw [List.length_take]; have := h.1; omega, fun j x hj => by
    rw [List.getElem?_take] at hj
    split at hj
    · exact h.2 j x hj
    · cases hj⟩
theorem steps_drop {w : World} {b o : Nat} {c : Nat} {l : List St} (h : Steps w (some ⟨b, o, none⟩) c l) (k : Nat) : Steps w (some ⟨b, o + k * 3, none⟩) (c - k) (l.drop k) :=
  ⟨by rw [List.length_drop]; have := h.1; omega, fun j x hj => by
    rw [List.getElem?_drop] at hj
    obtain ⟨b', o', e, hs⟩ := h.2 _ x hj
    cases e
    exact ⟨b, _, rfl, by rw [show o + k * 3 + j * 3 = o + (k + j) * 3 by rw [Nat.add_mul]; omega]; exact hs⟩⟩
theorem steps_cap {w : World} {a : Option Addr} {c c' : Nat} {l : List St} (h : Steps w a c l) (hc : c ≤ c') : Steps w a c' l := ⟨Nat.le_trans h.1 hc, h.2⟩
theorem steps_nil (w : World) : Steps w none 0 [] := ⟨Nat.le_refl _, fun j x hj => by simp at hj⟩
theorem ints_two {w : World} {b : Nat} {x y : Int} (h0 : w.cell? ⟨b, 0, none⟩ = some (.int .i64 x)) (h1 : w.cell? ⟨b, 1, none⟩ = some (.int .i64 y)) : Ints w (some ⟨b, 0, none⟩) 2 [x, y] :=
  ⟨Nat.le_refl _, fun j z hj => ⟨b, 0, rfl, by
    match j, hj with
    | 0, hj => simp at hj; subst hj; exact h0
    | 1, hj => simp at hj; subst hj; exact h1⟩⟩
theorem ints_three {w : World} {b : Nat} {x y u : Int} (h0 : w.cell? ⟨b, 0, none⟩ = some (.int .i64 x)) (h1 : w.cell? ⟨b, 1, none⟩ = some (.int .i64 y)) (h2 : w.cell? ⟨b, 2, none⟩ = some (.int .i64 u)) : Ints w (some ⟨b, 0, none⟩) 3 [x, y, u] :=
  ⟨Nat.le_refl _, fun j z hj => ⟨b, 0, rfl, by
    match j, hj with
    | 0, hj => simp at hj; subst hj; exact h0
    | 1, hj => simp at hj; subst hj; exact h1
    | 2, hj => simp at hj; subst hj; exact h2⟩⟩

/-- A new row of one step, compared with what Shift has made. -/
theorem row_one {W : World} {g r : Nat} (h0 : W.cell? ⟨g, 0, none⟩ = some (.int .i64 5)) (h1 : W.cell? ⟨g, 1, none⟩ = some (.int .i64 (-6))) (k0 : W.cell? ⟨r, 0, none⟩ = some (.int .i64 1)) (k1 : W.cell? ⟨r, 1, none⟩ = some (.slice (some ⟨g, 0, none⟩) 2 2)) (k2 : W.cell? ⟨r, 2, none⟩ = some (.int .i64 0)) :
    Steps W (some ⟨r, 0, none⟩) 1 [(1, [5, -6], 0)] :=
  ⟨Nat.le_refl _, fun j x hj => ⟨r, 0, rfl, by
    match j, hj with
    | 0, hj => simp at hj; subst hj; exact ⟨k0, ⟨_, _, k1, ints_two h0 h1⟩, k2⟩⟩⟩
theorem eq_one {W : World} {a' : Option Addr} {c' r : Nat} (hs : Steps W a' c' [(1, [5, -6], 0)]) (hr : Steps W (some ⟨r, 0, none⟩) 1 [(1, [5, -6], 0)]) :
    Calls Tryd.prog 16 #[.slice a' 1 c', .slice (some ⟨r, 0, none⟩) 1 1] W fun e w' => e = .returned (.bool true) ∧ W.grownBy w' none := by
  have hd := equal_calls [(1, [5, -6], 0)] [(1, [5, -6], 0)] a' (some ⟨r, 0, none⟩) c' 1 W hs hr (by decide) (by decide)
  exact hd
theorem eq_new {V W : World} {a' : Option Addr} {c' : Nat} (h : Steps W a' c' [(1, [5, -6], 0)] ∧ V.grownBy W none) :
    Calls Tryd.prog 16 #[.slice a' 1 c', .slice (some ⟨W.heap.size + 1, 0, none⟩) 1 1] ((W.alloc (.cells #[.int .i64 5, .int .i64 (-6)] 3)).alloc (.cells #[.int .i64 1, .slice (some ⟨W.heap.size, 0, none⟩) 2 2, .int .i64 0] 43)) fun e w' => e = .returned (.bool true) ∧ ((W.alloc (.cells #[.int .i64 5, .int .i64 (-6)] 3)).alloc (.cells #[.int .i64 1, .slice (some ⟨W.heap.size, 0, none⟩) 2 2, .int .i64 0] 43)).grownBy w' none := by
  refine eq_one (h.1.grown ((World.grownBy_alloc _ _ none).trans (World.grownBy_alloc _ _ none))) ?_
  clear h
  exact row_one (g := W.heap.size) (by go_simp) (by go_simp) (by go_simp) (by go_simp) (by go_simp)
theorem eq_new2 {V W : World} {a' : Option Addr} {c' : Nat} (h : Steps W a' c' [(1, [5, -6], 0)] ∧ (V.alloc (.cells #[.int .i64 5, .int .i64 (-6)] 3)).grownBy W none) :
    Calls Tryd.prog 16 #[.slice a' 1 c', .slice (some ⟨W.heap.size, 0, none⟩) 1 1] (W.alloc (.cells #[.int .i64 1, .slice (some ⟨V.heap.size, 0, none⟩) 2 2, .int .i64 0] 43)) fun e w' => e = .returned (.bool true) ∧ (W.alloc (.cells #[.int .i64 1, .slice (some ⟨V.heap.size, 0, none⟩) 2 2, .int .i64 0] 43)).grownBy w' none := by
  have ga := World.grownBy_alloc W (.cells #[.int .i64 1, .slice (some ⟨V.heap.size, 0, none⟩) 2 2, .int .i64 0] 43) none
  have e0 : (V.alloc (.cells #[.int .i64 5, .int .i64 (-6)] 3)).cell? ⟨V.heap.size, 0, none⟩ = some (.int .i64 5) := by go_simp
  have e1 : (V.alloc (.cells #[.int .i64 5, .int .i64 (-6)] 3)).cell? ⟨V.heap.size, 1, none⟩ = some (.int .i64 (-6)) := by go_simp
  exact eq_one (h.1.grown ga) (row_one (g := V.heap.size) (ga.cell (h.2.cell e0 (by simp)) (by simp)) (ga.cell (h.2.cell e1 (by simp)) (by simp)) (by go_simp) (by go_simp) (by go_simp))
theorem eq_new3 {V W : World} {a' : Option Addr} {c' : Nat} (h : Steps W a' c' [(1, [5, -6], 0)] ∧ ((V.alloc (.cells #[.int .i64 5, .int .i64 (-6)] 3)).alloc (.cells #[.int .i64 1, .slice (some ⟨V.heap.size, 0, none⟩) 2 2, .int .i64 0] 43)).grownBy W none) :
    Calls Tryd.prog 16 #[.slice a' 1 c', .slice (some ⟨V.heap.size + 1, 0, none⟩) 1 1] W fun e w' => e = .returned (.bool true) ∧ W.grownBy w' none := by
  refine eq_one h.1 (Steps.grown ?_ h.2)
  clear h
  exact row_one (g := V.heap.size) (by go_simp) (by go_simp) (by go_simp) (by go_simp) (by go_simp)

set_option maxRecDepth 100000 in
set_option maxHeartbeats 8000000 in
theorem head_says : HeadSays := by
  intro w htab
  have HTAB := Lib.hid htab; clear htab
  go_enter Tryd.func10, Tryd.ntmps10
  go_wp2_with fail
  obtain ⟨n0, hn0⟩ : ∃ n0, w.heap.size = n0 := ⟨_, rfl⟩
  have HW0 : Hid (∃ W0, W0 = ((((w.alloc (.cells #[.int .i64 1, .int .i64 (-2)] 3)).alloc (.cells #[.int .i64 3, .int .i64 1, .int .i64 2] 3)).alloc (.cells #[.int .i64 (-1), .int .i64 3] 3)).alloc (.cells #[.int .i64 1, .slice (some ⟨n0, 0, none⟩) 2 2, .int .i64 0, .int .i64 3, .slice (some ⟨n0 + 1, 0, none⟩) 3 3, .int .i64 0, .int .i64 4, .slice (some ⟨n0 + 1 + 1, 0, none⟩) 2 2, .int .i64 1, .int .i64 2, .slice none 0 0, .int .i64 0] 43)) ∧ w.grownBy W0 none ∧ Steps W0 (some ⟨n0 + 1 + 1 + 1, 0, none⟩) 4 L0) := Lib.hid (by
    refine ⟨_, rfl, (((World.grownBy_alloc _ _ none).trans (World.grownBy_alloc _ _ none)).trans (World.grownBy_alloc _ _ none)).trans (World.grownBy_alloc _ _ none), by simp [L0], fun j x hj => ⟨n0 + 1 + 1 + 1, 0, rfl, ?_⟩⟩
    rw [← hn0]
    clear hn0 HTAB
    match j, hj with
    | 0, hj => simp [L0] at hj; subst hj; exact ⟨by go_simp, ⟨_, _, by go_simp; rfl, ints_two (by go_simp) (by go_simp)⟩, by go_simp⟩
    | 1, hj => simp [L0] at hj; subst hj; exact ⟨by go_simp, ⟨_, _, by go_simp; rfl, ints_three (by go_simp) (by go_simp) (by go_simp)⟩, by go_simp⟩
    | 2, hj => simp [L0] at hj; subst hj; exact ⟨by go_simp, ⟨_, _, by go_simp; rfl, ints_two (by go_simp) (by go_simp)⟩, by go_simp⟩
    | 3, hj => simp [L0] at hj; subst hj; exact ⟨by go_simp, ⟨_, _, by go_simp, ints_nil _⟩, by go_simp⟩
    | n + 4, hj => simp [L0] at hj)
  obtain ⟨W0, hW0, hg0, hst0⟩ := HW0.out
  rw [← hn0] at hW0
  rw [← hW0]
  rw [hn0]
  have HS := Lib.hid (And.intro hst0 hg0); clear hst0 hg0 hW0 HW0 hn0
  obtain ⟨b3, hb3⟩ : ∃ b3, n0 + 1 + 1 + 1 = b3 := ⟨_, rfl⟩
  rw [hb3] at HS ⊢
  clear hb3
  obtain ⟨S0, hS0⟩ : ∃ S0 : ByteArray, ⟨#[108, 32, 49, 32, 45, 50, 32, 48, 10, 101, 32, 51, 32, 49, 32, 50, 32, 48, 10, 115, 32, 49, 32, 45, 49, 32, 51, 32, 48, 10, 100, 32, 48, 10]⟩ = S0 := ⟨_, rfl⟩
  have HS0 : Hid (S0.data.toList = T0 ∧ (⟨T0.toArray⟩ : ByteArray) = S0 ∧ S0.size ≤ 2000000) := Lib.hid ⟨by rw [← hS0]; rfl, by rw [← hS0]; rfl, by rw [← hS0]; decide⟩
  rw [hS0]
  clear hS0
  have hd := decode_calls S0 W0 HS0.out.2.2
  rw [HS0.out.1, T0_dec] at hd
  refine (show Calls Tryd.prog 13 #[.string S0] W0 (fun e w' => W0.grownBy w' none ∧ ∃ a c, e = .returned (.tuple #[.slice a 4 c, .int .i64 0]) ∧ Steps w' a c L0) from hd).mono ?_
  clear hd
  rintro e w1 ⟨g1, am, cm, rfl, st1⟩
  have HS1 := Lib.hid (And.intro (HS.out.1.grown g1) (And.intro st1 (HS.out.2.trans g1))); clear g1 st1 HS
  go_wp2_with fail
  have hd := decode_calls ⟨#[108, 32, 48, 49, 32, 48, 10]⟩ w1 (by decide)
  rw [show (⟨#[108, 32, 48, 49, 32, 48, 10]⟩ : ByteArray).data.toList = [108, 32, 48, 49, 32, 48, 10] from rfl, T1_dec] at hd
  refine hd.mono ?_
  clear hd
  rintro e w2 ⟨g2, rfl⟩
  have HS2 := Lib.hid (And.intro (HS1.out.1.grown g2) (And.intro (HS1.out.2.1.grown g2) (HS1.out.2.2.trans g2))); clear g2 HS1
  go_wp2_with fail
  have hd := decode_calls ⟨#[]⟩ w2 (by decide)
  rw [show (⟨#[]⟩ : ByteArray).data.toList = [] from rfl, dec_nil] at hd
  refine hd.mono ?_
  clear hd
  rintro e w3 ⟨g3, ae, ce, rfl, _⟩
  have HS3 := Lib.hid (And.intro (HS2.out.1.grown g3) (And.intro (HS2.out.2.1.grown g3) (HS2.out.2.2.trans g3))); clear g3 HS2
  have hlits : ∀ x ∈ L0, (x.2.1.length : Int) ≤ 9223372036854775807 := by decide
  have HLL := Lib.hid (And.intro (show (L0.length : Int) ≤ 9223372036854775807 by decide) hlits); clear hlits
  have HE : Hid (∀ W, w3.grownBy W none → Calls Tryd.prog 14 #[.slice (some ⟨b3, 0, none⟩) 4 4] W fun e w' => e = .returned (.string S0) ∧ W.grownBy w' none) := Lib.hid (fun W hW => by
    have hd := encode_calls L0 4 rfl (some ⟨b3, 0, none⟩) 4 W (HS3.out.1.grown hW) L0_good (by rw [L0_enc]; decide) (HTAB.out.grown (HS3.out.2.2.trans hW))
    rw [L0_enc, HS0.out.2.1] at hd
    exact hd)
  have HQ : Hid (∀ W, w3.grownBy W none → Calls Tryd.prog 16 #[.slice (some ⟨b3, 0, none⟩) 4 4, .slice am 4 cm] W fun e w' => e = .returned (.bool true) ∧ W.grownBy w' none) := Lib.hid (fun W hW => by
    have hd := equal_calls L0 L0 (some ⟨b3, 0, none⟩) am 4 cm W (HS3.out.1.grown hW) (HS3.out.2.1.grown hW) HLL.out.1 HLL.out.2
    rw [decide_eq_true (rfl : L0 = L0)] at hd
    exact hd)
  have HR : Hid (∀ W, w3.grownBy W none → Calls Tryd.prog 15 #[.slice (some ⟨b3, 0, none⟩) 4 4, .slice am 4 cm] W fun e w' => e = .returned (.bool true) ∧ W.grownBy w' none) := Lib.hid (fun W hW => by
    have hd := rEqual_calls L0 L0 (some ⟨b3, 0, none⟩) am 4 cm W (HS3.out.1.grown hW) (HS3.out.2.1.grown hW) HLL.out.1 HLL.out.2
    rw [decide_eq_true (rfl : L0 = L0)] at hd
    exact hd.mono fun e w' h => ⟨h.1, by obtain ⟨q, hq⟩ := h.2; rw [hq]; exact grown_drewN _ _ _⟩)
  have HV : Hid (∀ (v : Int) (B : Bool), validB v L0 = B → ∀ W, w3.grownBy W none → Calls Tryd.prog 12 #[.int .i64 v, .slice (some ⟨b3, 0, none⟩) 4 4] W fun e w' => e = .returned (.bool B) ∧ W.grownBy w' none) := Lib.hid (fun v B hB W hW => by
    rw [← hB]; exact valid_calls v L0 4 rfl (some ⟨b3, 0, none⟩) 4 W (HS3.out.1.grown hW) HLL.out.1 HLL.out.2)
  have HVN : Hid (∀ (v : Int) (B : Bool), validB v [] = B → ∀ W, Calls Tryd.prog 12 #[.int .i64 v, .slice none 0 0] W fun e w' => e = .returned (.bool B) ∧ W.grownBy w' none) := Lib.hid (fun v B hB W => by
    rw [← hB]; exact valid_calls v [] 0 rfl none 0 W (steps_nil _) (by decide) (by simp))
  have HSH : Hid (∀ W, w3.grownBy W none → Calls Tryd.prog 19 #[.slice (some ⟨b3, 0, none⟩) 1 4, .int .i64 4] W fun e w' => ∃ a' c', e = .returned (.slice a' 1 c') ∧ Steps w' a' c' [(1, [5, -6], 0)] ∧ W.grownBy w' none) := Lib.hid (fun W hW =>
    shift_calls 4 (L0.take 1) 1 rfl (some ⟨b3, 0, none⟩) 4 W (steps_take (HS3.out.1.grown hW) 1) (by decide) (by decide) (by decide))
  have HQ3 : Hid (∀ W, w3.grownBy W none → Calls Tryd.prog 16 #[.slice (some ⟨b3, 0, none⟩) 1 4, .slice (some ⟨b3, 3, none⟩) 1 3] W fun e w' => e = .returned (.bool false) ∧ W.grownBy w' none) := Lib.hid (fun W hW => by
    have hd := equal_calls (L0.take 1) ((L0.drop 1).take 1) (some ⟨b3, 0, none⟩) (some ⟨b3, 3, none⟩) 4 3 W (steps_take (HS3.out.1.grown hW) 1) (steps_take (steps_drop (HS3.out.1.grown hW) 1) 1) (by decide) (by decide)
    exact hd)
  go_wp2_with fail
  dsimp only [List.append]
  go_region_held3 (fun W => w3.grownBy W none)
    (first | exact ⟨rfl, rfl, rfl, Nat.le_refl _, fun _ _ _ => rfl⟩ | (go_split_ands; exact World.grownBy.trans (by assumption) g3) | (go_split_ands; exact World.grownBy.trans (by assumption) (World.grownBy_alloc _ _ none)) | (go_split_ands; exact World.grownBy.trans (by assumption) ((World.grownBy_alloc _ _ none).trans (World.grownBy_alloc _ _ none))) | fail)
    (first | (go_at_call 14; (with_reducible refine (HE.out _ ?_).mono ?_); (go_split_ands; assumption); rintro e w4 ⟨rfl, g3⟩) | (go_at_call 15; (with_reducible refine (HR.out _ ?_).mono ?_); (go_split_ands; assumption); rintro e w4 ⟨rfl, g3⟩) | (go_at_call 12; (with_reducible refine (HV.out 2 true (by decide) _ ?_).mono ?_); (go_split_ands; assumption); rintro e w4 ⟨rfl, g3⟩) | (go_at_call 12; (with_reducible refine (HV.out 1 false (by decide) _ ?_).mono ?_); (go_split_ands; assumption); rintro e w4 ⟨rfl, g3⟩) | (go_at_call 12; (with_reducible refine (HV.out 3 false (by decide) _ ?_).mono ?_); (go_split_ands; assumption); rintro e w4 ⟨rfl, g3⟩) | (go_at_call 12; (with_reducible refine (HVN.out (-1) false (by decide) _).mono ?_); rintro e w4 ⟨rfl, g3⟩) | (go_at_call 12; (with_reducible refine (HVN.out 0 true (by decide) _).mono ?_); rintro e w4 ⟨rfl, g3⟩) | (go_at_call 19; (with_reducible refine (HSH.out _ ?_).mono ?_); (go_split_ands; assumption); rintro e w12 ⟨a', c', rfl, hst, g3⟩; have HST := Lib.hid (And.intro hst g3); clear hst) | (go_at_call 16; (with_reducible refine (HQ.out _ ?_).mono ?_); (go_split_ands; assumption); rintro e w4 ⟨rfl, g3⟩) | (go_at_call 16; (with_reducible refine (HQ3.out _ ?_).mono ?_); (go_split_ands; assumption); rintro e w4 ⟨rfl, g3⟩) | (go_at_call 16; (with_reducible refine (eq_new HST.out).mono ?_); rintro e w4 ⟨rfl, g3⟩) | (go_at_call 16; (with_reducible refine (eq_new2 HST.out).mono ?_); rintro e w4 ⟨rfl, g3⟩) | (go_at_call 16; (with_reducible refine (eq_new3 HST.out).mono ?_); rintro e w4 ⟨rfl, g3⟩) | fail)
  all_goals
    have h3 : w3.grownBy w4 none := by go_split_ands; assumption
    go_wp2_with fail
    go_ret
    exact ⟨rfl, HS3.out.2.2.trans h3⟩
end Go.Proofs.YtgeidnfigncepaaDoor
