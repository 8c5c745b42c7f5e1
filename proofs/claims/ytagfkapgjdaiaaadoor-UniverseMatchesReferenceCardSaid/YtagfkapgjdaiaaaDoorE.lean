/- The tuple with a rank. -/
import Derived.Test.YtagfkapgjdaiaaaDoorD
namespace Go.Proofs.YtagfkapgjdaiaaaDoor
open Go.RowKit

/-- The last k digits of a number, and what is left. -/
def tupTo (N : Int) : Nat → Int → List Int
  | 0, _ => []
  | k + 1, r => tupTo N k (r.tdiv N) ++ [r.tmod N]
def leftTo (N : Int) : Nat → Int → Int
  | 0, r => r
  | k + 1, r => leftTo N k (r.tdiv N)
theorem tupTo_length (N : Int) : ∀ k r, (tupTo N k r).length = k
  | 0, _ => rfl
  | k + 1, r => by simp [tupTo, tupTo_length N k]
def tupI (N : Nat) (k r : Int) : List Int :=
  if k < 0 ∨ 3 < k ∨ (0 < k ∧ N < 1) then [] else if r < 0 ∨ 0 < leftTo N k.toNat r then [] else tupTo N k.toNat r

theorem make_run : ∀ m : Nat, m ≤ 3 → ∀ w : World, (Instr.makeSlice 28 (.int .i64 (m : Int)) (.int .i64 (m : Int))).run Tryd.prog w = .ok (.slice (some ⟨w.heap.size, 0, none⟩) m m) (w.alloc (.cells (Array.replicate m (.int .i64 0)) 3))
  | 0, _, _ => by kernel_rfl
  | 1, _, _ => by kernel_rfl
  | 2, _, _ => by kernel_rfl
  | 3, _, _ => by kernel_rfl
  | n + 4, h, _ => absurd h (by omega)

/-- A row of m numbers in a block of its own that may be written. -/
structure Own (w1 w : World) (g m : Nat) : Prop where
  size : w1.heap.size ≤ g ∧ g < w.heap.size
  there : ∀ j, j < m → (w.cell? ⟨g, j, none⟩).isSome = true ∧ w.frozen? ⟨g, j, none⟩ = false
  grown : w1.grownBy w none
theorem Own.make (w : World) (m : Nat) : Own w (w.alloc (.cells (Array.replicate m (.int .i64 0)) 3)) w.heap.size m := by
  refine ⟨⟨Nat.le_refl _, by simp⟩, fun j hj => ?_, World.grownBy_alloc _ _ _⟩
  have e := World.cell?_alloc_new w (Array.replicate m (.int .i64 0)) 3 j
  have f := World.frozen?_alloc_new w (Array.replicate m (.int .i64 0)) 3 j
  exact ⟨by rw [e]; simp [hj], f⟩

theorem Own.set {w1 w : World} {g m : Nat} (h : Own w1 w g m) (p : Nat) (v : Value) : Own w1 (w.setCell ⟨g, p, none⟩ v) g m := by
  refine ⟨⟨h.size.1, by have := h.size.2; simpa [World.setCell] using this⟩, fun j hj => ?_, ?_⟩
  · obtain ⟨h1, h2⟩ := h.there j hj
    refine ⟨?_, by rw [World.frozen?_setCell]; exact h2⟩
    by_cases e : p = j
    · subst e; rw [World.cell?_setCell_same' _ _ _ h1]; rfl
    · rw [World.cell?_setCell_other _ _ _ _ (by intro e'; injection e' with _ e2; exact e e2)]; exact h1
  · have hg := h.grown
    refine ⟨hg.os, hg.tape, hg.output, by have := hg.size; simpa [World.setCell] using this, fun k hk h0 => ?_⟩
    rw [Below.heap_setCell _ _ _ _ (fun e => by have := h.size.1; simp at e; omega)]
    exact hg.block k hk h0
theorem tdiv_in {L : Int} {N : Nat} (hN : 1 ≤ N) (h : -9223372036854775808 ≤ L ∧ L ≤ 9223372036854775807) : -9223372036854775808 ≤ L.tdiv N ∧ L.tdiv N ≤ 9223372036854775807 := by
  have h1 := Int.natAbs_tdiv_le_natAbs L N
  by_cases h0 : 0 ≤ L
  · have h2 := Int.tdiv_nonneg h0 (b := (N : Int)) (by omega)
    omega
  · have h2 := Int.tdiv_nonneg (a := -L) (b := (N : Int)) (by omega) (by omega)
    rw [Int.neg_tdiv] at h2
    omega

set_option maxHeartbeats 2000000 in
theorem tuple_calls (zs : List Nat) (a : Option Addr) (c : Nat) (st k r : Int) (w : World) (h : Nums w a c zs) (hz : ∀ z ∈ zs, z ≤ 5) (hl : zs.length ≤ 4) (hr : -9223372036854775808 ≤ r ∧ r ≤ 9223372036854775807) :
    Calls Tryd.prog 25 #[.agg #[.slice a zs.length c, .int .i64 st], .int .i64 k, .int .i64 r] w fun e w' => ∃ a' c', e = .returned (.slice a' (tupI (sum zs) k r).length c') ∧ Ints w' a' c' (tupI (sum zs) k r) ∧ w.grownBy w' none := by
  have hsl := sum_le hz
  obtain ⟨N, hN⟩ : ∃ N, sum zs = N := ⟨_, rfl⟩
  rw [hN] at hsl ⊢
  have hN20 : N ≤ 20 := by omega
  have HH := Lib.hid (And.intro h (And.intro hz hl)); clear h hz
  have hg := World.grownBy_alloc w (.cells #[.slice a zs.length c, .int .i64 st] 30) none
  have HG := Lib.hid hg; clear hg
  clear hsl hl
  by_cases hbad : k < 0 ∨ 3 < k ∨ (0 < k ∧ N < 1)
  · have HR : Hid (tupI N k r = []) := Lib.hid (by unfold tupI; rw [if_pos hbad])
    have h4 : decide (k < 0) = true ∨ (decide (k < 0) = false ∧ decide (3 < k) = true) ∨ (decide (k < 0) = false ∧ decide (3 < k) = false ∧ decide (0 < k) = true ∧ decide (N < 1) = true ∧ decide ((N : Int) < 1) = true) := by
      by_cases b1 : k < 0
      · exact .inl (by simpa using b1)
      · by_cases b2 : 3 < k
        · exact .inr (.inl ⟨by simpa using b1, by simpa using b2⟩)
        · exact .inr (.inr ⟨by simpa using b1, by simpa using b2, by simp; omega, by simp; omega, by simp; omega⟩)
    clear hbad
    rcases h4 with e1 | ⟨e1, e2⟩ | ⟨e1, e2, e3, e4, e5⟩
    all_goals
      go_enter Tryd.func25, Tryd.ntmps25
      go_wp2_with fail
      refine (atoms_calls zs a c st _ (HH.out.1.grown HG.out) HH.out.2.1 HH.out.2.2).mono ?_
      rintro e w1 ⟨rfl, g1⟩
      rw [hN]
      have HG1 := Lib.hid (HG.out.trans g1); clear g1
      go_wp2_with fail
      go_ret
      exact ⟨none, 0, by rw [HR.out]; rfl, by rw [HR.out]; exact ⟨Nat.le_refl _, .inl ⟨rfl, rfl, rfl⟩⟩, HG1.out⟩
  · obtain ⟨m, hm⟩ : ∃ m : Nat, k = (m : Int) := ⟨k.toNat, by omega⟩
    subst hm
    have hm3 : m ≤ 3 := by omega
    have hNm : 0 < m → 1 ≤ N := by omega
    have e1 : decide (((m : Nat) : Int) < 0) = false := by simp
    have e2 : decide (3 < m) = false := by simp; omega
    have e2' : decide ((3 : Int) < (m : Int)) = false := by simp; omega
    have e3 : (decide (0 < m) = false) ∨ (decide (0 < m) = true ∧ decide (N < 1) = false ∧ decide ((N : Int) < 1) = false) := by
      by_cases b : 0 < m
      · exact .inr ⟨by simpa using b, by simp; omega, by simp; omega⟩
      · exact .inl (by simpa using b)
    have hmk := make_run m hm3
    rcases e3 with e3 | ⟨e3, e4, e5⟩
    all_goals
      go_enter Tryd.func25, Tryd.ntmps25
      go_wp2_with fail
      refine (atoms_calls zs a c st _ (HH.out.1.grown HG.out) HH.out.2.1 HH.out.2.2).mono ?_
      rintro e w1 ⟨rfl, g1⟩
      rw [hN]
      have HG1 := Lib.hid (HG.out.trans g1); clear g1
      go_wp2_with fail
      obtain ⟨W, hW⟩ : ∃ W, w1.alloc (.cells (Array.replicate m (.int .i64 0)) 3) = W := ⟨_, rfl⟩
      have hown := Own.make w1 m
      rw [hW] at hown ⊢
      clear hW
      obtain ⟨g, hg⟩ : ∃ g, w1.heap.size = g := ⟨_, rfl⟩
      rw [hg] at hown ⊢
      have HOW := Lib.hid hown; clear hown hg hmk
      go_loopg [9, 10] m (fun gk s9 s10 wr => ∃ (q : Nat) (L x : Int) (S : List Int), s9 = .int .i64 L ∧ s10 = .int .i64 x ∧ x = (q : Int) - 1 ∧ gk = q ∧ q ≤ m ∧ S.length = m - q ∧ tupTo N m r = tupTo N q L ++ S ∧ leftTo N m r = leftTo N q L ∧
        (∀ (j : Nat) (z : Int), S[j]? = some z → wr.cell? ⟨g, q + j, none⟩ = some (.int .i64 z)) ∧ Own w1 wr g m ∧ (-9223372036854775808 ≤ L ∧ L ≤ 9223372036854775807))
      case atStart => exact ⟨m, r, _, [], rfl, rfl, rfl, rfl, Nat.le_refl _, by simp, by simp, rfl, by simp, HOW.out, hr⟩
      case round =>
        obtain ⟨q, L, x, S, rfl, rfl, hx, hgk, hqm, hSl, ht, hlf, hcs, ho, hL⟩ := hrel
        have HGK := Lib.hid (And.intro hgk (And.intro hSl (And.intro ht hlf))); clear hgk hSl ht hlf
        have HCS := Lib.hid hcs; clear hcs
        have HO := Lib.hid ho; clear ho
        cases q with
        | zero =>
          have hx0 : x = -1 := by omega
          subst hx0
          clear hx
          have hLft : Hid (leftTo N m r = L) := Lib.hid (by rw [HGK.out.2.2.2]; rfl)
          have hTup : Hid (tupTo N m r = S) := Lib.hid (by rw [HGK.out.2.2.1]; simp [tupTo])
          by_cases hr0 : r < 0
          · have d1 : decide (r < 0) = true := by simpa using hr0
            have HR : Hid (tupI N (m : Int) r = []) := Lib.hid (by unfold tupI; rw [if_neg hbad, if_pos (.inl hr0)])
            clear hbad
            go_wp2
            go_ret
            exact ⟨none, 0, by rw [HR.out]; rfl, by rw [HR.out]; exact ⟨Nat.le_refl _, .inl ⟨rfl, rfl, rfl⟩⟩, HG1.out.trans HO.out.grown⟩
          · have d1 : decide (r < 0) = false := by simpa using hr0
            by_cases hL0 : 0 < L
            · have d2 : decide (0 < L) = true := by simpa using hL0
              have HR : Hid (tupI N (m : Int) r = []) := Lib.hid (by unfold tupI; rw [if_neg hbad, if_pos (.inr (by rw [Int.toNat_natCast, hLft.out]; exact hL0))])
              clear hbad
              go_wp2
              go_ret
              exact ⟨none, 0, by rw [HR.out]; rfl, by rw [HR.out]; exact ⟨Nat.le_refl _, .inl ⟨rfl, rfl, rfl⟩⟩, HG1.out.trans HO.out.grown⟩
            · have d2 : decide (0 < L) = false := by simpa using hL0
              have HR : Hid (tupI N (m : Int) r = S) := Lib.hid (by
                unfold tupI
                rw [if_neg hbad, if_neg (by rw [Int.toNat_natCast, hLft.out]; omega), Int.toNat_natCast, hTup.out])
              have hSm : S.length = m := by rw [HGK.out.2.1]; rfl
              have HSM := Lib.hid hSm
              clear hbad hSm
              go_wp2
              go_ret
              refine ⟨some ⟨g, 0, none⟩, m, by rw [HR.out, HSM.out]; rfl, ?_, HG1.out.trans HO.out.grown⟩
              rw [HR.out]
              exact ⟨by rw [HSM.out]; exact Nat.le_refl _, .inr ⟨g, 0, rfl, HO.out.size.2, HCS.out⟩⟩
        | succ p =>
          have hxp : x = (p : Int) := by omega
          subst hxp
          clear hx
          have hp0 : decide ((0 : Int) ≤ (p : Int)) = true := by simp
          have hpm : p < m := by omega
          have hpI : (p : Int) < (m : Int) := by omega
          have hNp := hNm (by omega)
          have hNI : (N : Int) ≠ 0 := by omega
          obtain ⟨hsome, hfr⟩ := HO.out.there p hpm
          obtain ⟨old, hold⟩ := Option.isSome_iff_exists.1 hsome
          have HNL := Lib.hid (tdiv_in hNp hL)
          have HNO := Lib.hid (HO.out.set p (.int .i64 (L.tmod N)))
          have HNC : Hid (∀ (j : Nat) (z : Int), (L.tmod N :: S)[j]? = some z → (wr.setCell ⟨g, p, none⟩ (.int .i64 (L.tmod N))).cell? ⟨g, p + j, none⟩ = some (.int .i64 z)) := Lib.hid (fun j z hj => by
            cases j with
            | zero =>
              simp at hj; subst hj
              exact World.cell?_setCell_same' _ _ _ (HO.out.there p hpm).1
            | succ j =>
              rw [World.cell?_setCell_other _ _ _ _ (by intro e; simp at e), show p + (j + 1) = p + 1 + j by omega]
              exact HCS.out j z (by simpa using hj))
          go_wp2
          go_roundg p
          case measure => rw [HGK.out.1]; omega
          case rel => exact ⟨p, L.tdiv N, _, L.tmod N :: S, rfl, rfl, rfl, rfl, by omega, by rw [List.length_cons, HGK.out.2.1]; omega, by rw [HGK.out.2.2.1]; simp [tupTo], HGK.out.2.2.2, HNC.out, HNO.out, HNL.out⟩
end Go.Proofs.YtagfkapgjdaiaaaDoor
